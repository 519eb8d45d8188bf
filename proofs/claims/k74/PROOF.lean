import PyProof.Rows.All
import Wide.All
import OpenK.AllK
import Wide.FinOn
import Lean
import PyProof.EqAt
import PyProof.EqKinds
import PyProof.TupleCall
import PyProof.NeKinds
import PySem.Challenge.RW_helmsum_k74_parts_alike
set_option Elab.async false
set_option linter.all false
set_option maxRecDepth 100000
abbrev ND9:=@List.Nodup PySem.Str
abbrev aa:=@List.getD_eq_getElem?_getD
abbrev af:=@List.getElem?_eq_getElem
abbrev ag:=@List.length_map
abbrev ai:=@Nat.le_trans
abbrev aj:=@Nat.le_refl
abbrev ao:=@Nat.pow_le_pow_right
abbrev ar:=@List.mem_of_getElem?
abbrev av:=@List.length_append
abbrev aw:=@List.mem_map
abbrev ay:=@Nat.mul_le_mul_right
abbrev az:=@List.mem_append
abbrev aD:=@List.getElem?_map
abbrev aE:=@List.getElem_mem
abbrev aF:=@List.getElem?_eq_some_iff
abbrev aG:=@List.mem_cons
abbrev aJ:=@Nat.mul_le_mul
abbrev aK:=@List.getElem_of_mem
abbrev aL:=@List.take_of_length_le
abbrev aQ:=@List.size_toArray
abbrev aR:=@List.length_take
abbrev aS:=@List.getElem?_eq_none
abbrev aT:=@Nat.le_of_lt
abbrev aU:=@PySem.boot_len
abbrev aY:=@Nat.mul_le_mul_left
abbrev a7:=@Rat.intCast_mul
abbrev a8:=@List.not_mem_nil
abbrev bf:=@Rat.intCast_natCast
abbrev bg:=@Nat.pow_add
abbrev bu:=@Bool.false_ne_true
abbrev bw:=@List.length_replicate
abbrev bB:=@Nat.lt_of_le_of_lt
abbrev bD:=@List.length_cons
abbrev bG:=@List.mem_of_mem_take
abbrev bH:=@List.length_singleton
abbrev bI:=@Nat.one_le_two_pow
abbrev bJ:=@Nat.lt_of_lt_of_le
abbrev bL:=@Nat.zero_le
abbrev bQ:=@Nat.mul_pos
abbrev bR:=@List.mem_append_right
abbrev bV:=@Nat.lt_or_ge
abbrev bW:=@List.getElem?_append_right
abbrev bX:=@List.length_range
abbrev b6:=@Rat.mul_comm
abbrev b8:=@Nat.mul_assoc
abbrev b9:=@List.map_append
abbrev cb:=@List.mem_singleton
abbrev ck:=@List.mem_cons_of_mem
abbrev cv:=@Option.some.inj
abbrev cw:=@Nat.mul_comm
abbrev cx:=@List.getElem?_append_left
abbrev cz:=@List.append_assoc
abbrev cE:=@Int.fdiv_eq_ediv_of_nonneg
abbrev cG:=@List.getElem?_zipWith
abbrev cH:=@List.mem_or_eq_of_mem_set
abbrev cJ:=@List.length_zipWith
abbrev cL:=@Rat.mul_zero
abbrev cP:=@Int.eq_ofNat_of_zero_le
abbrev cR:=@List.getElem?_range
abbrev cT:=@List.nil_append
abbrev cU:=@Nat.ne_of_lt
abbrev c7:=@Int.natAbs_natCast
abbrev de:=@Rat.intCast_neg
abbrev dn:=@Nat.le_mul_of_pos_right
abbrev dq:=@List.getElem?_replicate
abbrev dt:=@List.mem_cons_self
abbrev du:=@PySem.W.kia_one
abbrev dw:=@Rat.zero_mul
abbrev dA:=@Nat.succ_le_succ
abbrev dE:=@List.nodup_append
abbrev dF:=@Int.mul_assoc
abbrev dH:=@Rat.intCast_inj
abbrev dM:=@PySem.F.plainAttrs_list
abbrev dO:=@Nat.dvd_mul_left
abbrev dP:=@Bool.and_eq_true
abbrev dW:=@Nat.lt_irrefl
abbrev dZ:=@Nat.lt_trichotomy
abbrev d4:=@Nat.le_mul_of_pos_left
abbrev d9:=@List.nodup_cons
abbrev ee:=@List.length_set
abbrev eB:=@List.drop_eq_getElem_cons
abbrev eF:=@Int.natAbs_dvd_natAbs
abbrev eH:=@Nat.lt_succ_self
abbrev eI:=@List.ext_getElem
abbrev eJ:=@List.cons_append
abbrev eK:=@Int.gcd_dvd_left
abbrev eO:=@PySem.F.type_list_append
abbrev eP:=@PySem.F.slot_list_append
abbrev eQ:=@List.getElem?_take_of_lt
abbrev eS:=@Nat.pow_lt_pow_right
abbrev eT:=@List.mem_append_left
abbrev eU:=@Int.natAbs_mul
abbrev fh:=@Int.gcd_dvd_right
abbrev fj:=@Nat.not_lt_zero
abbrev fD:=@List.map_map
abbrev fE:=@Int.mul_comm
abbrev fL:=@Rat.one_mul
abbrev fM:=@Nat.mul_add
abbrev fO:=@Nat.le_add_right
abbrev gH:=@Nat.succ_mul
abbrev gI:=@Nat.pow_succ
abbrev gJ:=@List.flatten_cons
abbrev gM:=@Nat.le_of_dvd
abbrev gN:=@List.map_cons
abbrev iq:=@Nat.exists_eq_add_of_le
abbrev iC:=@Int.mul_pos
abbrev iD:=@Rat.add_zero
abbrev iE:=@List.drop_of_length_le
abbrev iF:=@Int.emod_lt_of_pos
abbrev iG:=@Bool.false_eq_true
abbrev jw:=@List.ext_getElem?
abbrev jy:=@List.map_id
abbrev jz:=@List.getElem_zipWith
abbrev jA:=@Int.natAbs_neg
abbrev j9:=@PySem.IsL.update
abbrev ka:=@List.lookup_cons
abbrev kb:=@Int.gcd_comm
abbrev ki:=@PySem.F.plain_extend_loop
abbrev kj:=@PySem.mem_of_lookup
abbrev kn:=@Nat.pow_le_pow_left
abbrev ko:=@List.replicate_succ
abbrev lF:=@List.range_succ
abbrev lG:=@List.mem_filter
abbrev lH:=@Int.emod_nonneg
abbrev lI:=@Bool.eq_iff_iff
abbrev lW:=@Nat.eq_zero_or_pos
abbrev mL:=@Nat.pow_pos
abbrev mM:=@Nat.le_succ
abbrev mN:=@Int.natCast_dvd_natCast
abbrev mO:=@Int.dvd_mul_of_dvd_left
abbrev nh:=@Nat.sub_self
abbrev nk:=@Nat.add_comm
abbrev nA:=@List.nodup_nil
abbrev nB:=@List.mem_range
abbrev oR:=@PySem.F.slot_zip_next
abbrev oS:=@List.all_eq_true
abbrev qO:=@Rat.mul_one
abbrev qP:=@List.drop_append_of_le_length
abbrev qS:=@List.append_nil
abbrev sZ:=@List.map_congr_left
abbrev td:=@List.length_reverse
abbrev tw:=@Int.zero_add
abbrev uv:=@Int.eq_of_mul_eq_mul_right
abbrev ve:=@Int.mul_neg_of_pos_of_neg
abbrev xo:=@Nat.pow_mul
abbrev xp:=@Nat.one_mul
abbrev xr:=@List.getElem_take
abbrev xv:=@Nat.dvd_trans
abbrev zH:=@Rat.intCast_eq_zero_iff
abbrev zI:=@List.mem_flatten
abbrev zJ:=@List.length_drop
abbrev zK:=@List.getElem_map
abbrev Ac:=@PySem.W.cellsFrom_some
abbrev BM:=@Rat.natCast_mul
abbrev BN:=@Rat.intCast_sub
abbrev BO:=@Rat.intCast_add
abbrev BP:=@List.length_zip
abbrev BS:=@Bool.beq_eq_decide_eq
abbrev DB:=@Nat.add_mul
abbrev DD:=@Nat.add_le_add_right
abbrev DE:=@List.replicate_succ'
abbrev DF:=@List.mem_of_mem_drop
abbrev DG:=@List.forIn_nil
abbrev Ff:=@PySem.W.plainGet_of
abbrev Fg:=@List.filter_sublist
abbrev Fh:=@List.filterMap_cons
abbrev GU:=@Int.natAbs_eq
abbrev GW:=@List.append_of_mem
abbrev GX:=@List.Nodup.sublist
abbrev JM:=@Rat.zero_add
abbrev JN:=@Nat.ne_of_gt
abbrev JO:=@Nat.mul_zero
abbrev JP:=@Nat.dvd_mul_right
abbrev JQ:=@List.getElem_drop
abbrev JR:=@Int.dvd_refl
abbrev KD:=@Nat.min_le_right
abbrev KE:=@List.nodup_range
abbrev MI:=@Nat.mul_one
abbrev MJ:=@Int.dvd_gcd
abbrev MO:=@Rat.mul_eq_zero
abbrev MP:=@Nat.le_antisymm
abbrev MQ:=@List.of_mem_zip
abbrev MR:=@List.forIn_cons
abbrev MS:=@Int.gcd_pos_of_ne_zero_right
abbrev Pb:=@List.length_eraseIdx_of_lt
abbrev Q4:=@PySem.F.entry_extend_loop
abbrev Q5:=@List.pairwise_iff_getElem
abbrev Q6:=@List.getElem?_zip_eq_some
abbrev Q7:=@Int.natAbs_ediv_of_nonneg
abbrev Rj:=@Option.isSome_iff_exists
abbrev Rm:=@List.mem_of_mem_eraseIdx
abbrev Rn:=@List.all_cons
abbrev SV:=@PySem.F.args_zip_next_1
abbrev SX:=@List.filter_cons_of_pos
abbrev SY:=@List.filter_cons_of_neg
abbrev LR9:=List (List Rat)
abbrev FG9:=PySem.W.Frag
namespace L2
open PySem PySem.Spec PyProof.Rows
abbrev Key:=Sum Int Str
def OU:Key->Value->Bool
 | .inl k,v=>Value.isInt k v
 | .inr x,v=>Value.isStrOf x v
def Th (w:World):Key->Int
 | .inl k=>hashInt k
 | .inr x=>hashStr w x
theorem fe:∀{k:Key} {v:Value},OU k v=true->(∃i t,k=Sum.inl i/\v=Value.int i t)\/(∃x t,k=Sum.inr x/\v=Value.str x t)
 | .inl i,v,h=>by
  obtain ⟨t,e⟩:=Value.isInt_shape (k:=i) (v:=v) h;exact .inl ⟨i,t,rfl,e⟩
 | .inr x,v,h=>by
  obtain ⟨t,e⟩:=Value.isStrOf_shape (x:=x) (v:=v) h;exact .inr ⟨x,t,rfl,e⟩
theorem QE (a b:Int):decide ((Sum.inl a:Key)=Sum.inl b)=(a == b):=by
 by_cases e:a=b
 ·subst e;simp
 ·have h:¬(Sum.inl a:Key)=Sum.inl b:=λq=>e (Sum.inl.inj q)
  rw[decide_eq_false h];exact (beq_eq_false_iff_ne.mpr e).symm
theorem Qz (a b:Str):decide ((Sum.inr a:Key)=Sum.inr b)=decide (a=b):=by
 by_cases e:a=b
 ·subst e;simp
 ·have h:¬(Sum.inr a:Key)=Sum.inr b:=λq=>e (Sum.inr.inj q)
  rw[decide_eq_false h,decide_eq_false e]
theorem QD (a:Int) (b:Str):decide ((Sum.inl a:Key)=Sum.inr b)=false:=decide_eq_false (λq=>nomatch q)
theorem QC (a:Str) (b:Int):decide ((Sum.inr a:Key)=Sum.inl b)=false:=decide_eq_false (λq=>nomatch q)
def Jg (prog:Program) (w:World):PySem.KeyKind prog w Key where
 is:=OU
 hash:=Th w
 inj:=λv a b ha hb=>by
  rcases fe ha with ⟨i,t,rfl,rfl⟩ | ⟨x,t,rfl,rfl⟩
  ·rcases fe hb with ⟨j,u,rfl,e⟩ | ⟨y,u,rfl,e⟩
   ·injection e with e1 _;rw[e1]
   ·exact nomatch e
  ·rcases fe hb with ⟨j,u,rfl,e⟩ | ⟨y,u,rfl,e⟩
   ·exact nomatch e
   ·injection e with e1 _;rw[e1]
 byValue:=λk v h=>by
  rcases fe h with ⟨i,t,rfl,rfl⟩ | ⟨x,t,rfl,rfl⟩ <;> rfl
 pyHash:=λhv h=>by
  rcases fe hv with ⟨i,t,rfl,rfl⟩ | ⟨x,t,rfl,rfl⟩
  ·exact wpAny_pyHash_int h
  ·exact wpAny_pyHash_str h
 eqBool:=λhu hv h=>by
  rcases fe hu with ⟨i,t,rfl,rfl⟩ | ⟨x,t,rfl,rfl⟩
  ·rcases fe hv with ⟨j,u,rfl,rfl⟩ | ⟨y,u,rfl,rfl⟩
   ·rw[QE] at h;exact wpAny_eqBool_int h
   ·rw[QD] at h;exact SeqAt.EqAt.int_str i t y u _ _ _ _ h
  ·rcases fe hv with ⟨j,u,rfl,rfl⟩ | ⟨y,u,rfl,rfl⟩
   ·rw[QC] at h;exact SeqAt.EqAt.str_int x t j u _ _ _ _ h
   ·rw[Qz] at h;exact wpAny_eqBool_str h
 «strs»:=λk x t v h=>by
  rcases fe h with ⟨i,u,rfl,e⟩ | ⟨y,u,rfl,e⟩
  ·exact nomatch e
  ·injection e with e1 _
   subst e1;cases v <;> rfl
inductive V where
  | non | bl (b : Bool) | int (i : Int) | str (x : Str) | byt (b : Array UInt8) | flt (b : UInt64) | ref (a : Addr) | ty (n : String)
  deriving DecidableEq

def RelV:V->Value->Prop
 | .non,u=>u=Value.none
 | .bl b,u=>u=Value.bool b
 | .int i,u=>∃t,u=Value.int i t
 | .str x,u=>∃t,u=Value.str x t
 | .byt b,u=>∃t,u=Value.bytes b t
 | .flt b,u=>∃t,u=Value.float b t
 | .ref a,u=>u=Value.ref a
 | .ty n,u=>u=Value.type n
abbrev cQ:List V->List Value->Prop:=Paired RelV
theorem cQ.length (r:cQ xs us):xs.length=us.length:=Paired.length r
theorem cQ.get:∀{xs:List V} {us:List Value} {i:Nat} {x:V},cQ xs us->xs[i]?=some x->∃u,us[i]?=some u/\RelV x u
 | _,_,_,_,.nil,e=>by simp at e
 | _,_,0,_,.cons r _,e=>by simp at e;subst e;exact ⟨_,rfl,r⟩
 | _,_,i+1,x,.cons _ t,e=>by
  obtain ⟨u,h1,h2⟩:=cQ.get (i:=i) (x:=x) t (by simpa using e);exact ⟨u,by simpa using h1,h2⟩
theorem cQ.set {x:V} {u:Value} (r:RelV x u):∀{xs:List V} {us:List Value} (i:Nat),cQ xs us->cQ (xs.set i x) (us.set i u)
 | _,_,_,.nil=>.nil
 | _,_,0,.cons _ t=>.cons r t
 | _,_,i+1,.cons q t=>.cons q (cQ.set r i t)
theorem cQ.append:∀{xs ys:List V} {us ws:List Value},cQ xs us->cQ ys ws->cQ (xs++ys) (us++ws)
 | _,_,_,_,.nil,s=>s
 | _,_,_,_,.cons r t,s=>.cons r (cQ.append t s)
theorem cQ.take:∀{xs:List V} {us:List Value} (n:Nat),cQ xs us->cQ (xs.take n) (us.take n)
 | _,_,0,_=>.nil
 | _,_,_+1,.nil=>.nil
 | _,_,n+1,.cons r t=>.cons r (cQ.take n t)
theorem cQ.drop:∀{xs:List V} {us:List Value} (n:Nat),cQ xs us->cQ (xs.drop n) (us.drop n)
 | _,_,0,r=>r
 | _,_,_+1,.nil=>.nil
 | _,_,n+1,.cons _ t=>cQ.drop n t
def Cm:Option V->Option Value->Prop
 | some v,some u=>RelV v u
 | none,none=>True
 | _,_=>False
def KV {κ:Type}:List (κ×V)->List (κ×Value)->Prop:=Paired λ(p:κ×V) (q:κ×Value)=>p.1=q.1/\RelV p.2 q.2
def kV:Key->V
 | .inl i=>.int i
 | .inr x=>.str x
inductive HO where
 | lst (xs:List V)
 | tup (xs:List V)
 | dK (kvs:List (Key×V)) | dT (kvs:List (List Key×V))
 | set (S:Int->Bool) (n:Nat)
 | ins (C dx:Addr) (fs:List (Str×V))
 | own (x:Addr)
 | xd (fs:List (Str×V))
 | met (f x:Addr)
 | rng (lo hi:Int)
 | frz (o:Obj) (u:HO)
 | tbl (ps:Array Value)
 | ext (φ:Heap->Prop)
abbrev Hp:=Addr->Option HO
def upd (H:Hp) (a:Addr) (o:HO):Hp:=λb=>if b=a then some o else H b
theorem aM:upd H a o a=some o:=by unfold upd;rw[if_pos rfl]
theorem bN (h:b≠a):upd H a o b=H b:=by unfold upd;rw[if_neg h]
theorem fo {H:Hp} (h:H a=some o) (h':H b=none):a≠b:=by
 intro e;subst e;rw[h] at h';cases h'
section
variable (P:Program) (w:World)
def iV (H:Hp) (h:Heap) (a:Addr):HO->Prop
 | .lst xs=>xs.length<=sizeLine/\∃(its:List Value) (n:Nat),cQ xs its/\h.get? a=some { cls:=.type "list",data:=.seq its.toArray n }
 | .tup xs=>xs.length<=sizeLine/\∃its:List Value,cQ xs its/\IsTup h a its.toArray
 | .dK kvs=>kvs.length<=sizeLine/\(a == sysModules)=false/\∃vs,KV kvs vs/\h.DictOf (Jg P w) a vs
 | .dT kvs=>kvs.length<=sizeLine/\(a == sysModules)=false/\∃xs:List (List Key×Addr×Value),
   Paired (λ(p:List Key×V) (q:List Key×Addr×Value)=>p.1=q.1/\H q.2.1=some (.tup (p.1.map kV))/\RelV p.2 q.2.2) kvs xs /\
   ∃o es ep,h.get? a=some o/\o.ExactDict/\o.data=.dict es ep/\es.toList=xs.map (entryOfKey (tupleKind (Jg P w)))/\(xs.map (·.1)).Nodup
 | .set S n=>h.SetOf (intKind P w) a S n
 | .ins C dx fs=>H dx=some (.own a)/\fs.length<=1000/\dx≠a/\h.get? a=some (PySem.W.instObj C dx) /\
   ∃mA,h.Ns1 dx mA/\(∀f,Cm (fs.lookup f) (mA f))/\PySem.Within mA (fs.map (·.1))
 | .own _=>∃o,h.get? a=some o
 | .xd fs=>∃mA,h.Ns1 a mA/\∀f,Cm (fs.lookup f) (mA f)
 | .rng lo hi=>∃t u v,h.get? a=some { cls:=.type "range",data:=.fields #[.int lo t,.int hi u,.int 1 v] }
 | .frz o u=>h.get? a=some o/\iV H h a u
 | .tbl ps=>h.get? a=some { cls:=.none,data:=.fields ps }
 | .met f x=>h.get? a=some (PySem.W.methodObj (.ref f) (.ref x))
 | .ext φ=>φ h/\(∃o,h.get? a=some o)/\∀h1 h2:Heap,φ h1->(∀o,h1.get? a=some o->h2.get? a=some o)->φ h2
def Ab (H:Hp) (h:Heap):Prop:=∀a o,H a=some o->iV P w H h a o
end
section
variable {P:Program} {w:World} {H H':Hp} {h h':Heap} {a:Addr} {o:HO}
theorem iV.lt (x:iV P w H h a o):a < h.objs.size:=by
 cases o with
 | lst xs=>obtain ⟨_,_,_,_,e⟩:=x;exact Heap.lt_size e
 | tup xs=>obtain ⟨_,_,_,p⟩:=x;exact p.lt
 | dK kvs=>obtain ⟨_,_,_,_,o,_,_,e,_⟩:=x;exact Heap.lt_size e
 | dT kvs=>obtain ⟨_,_,_,_,o,_,_,e,_⟩:=x;exact Heap.lt_size e
 | set S n=>obtain ⟨o,_,_,_,e,_⟩:=x;exact Heap.lt_size e
 | ins C dx fs=>obtain ⟨_,_,_,e,_⟩:=x;exact Heap.lt_size e
 | own y=>obtain ⟨_,e⟩:=x;exact Heap.lt_size e
 | xd fs=>obtain ⟨_,⟨_,_,_,e,_⟩,_⟩:=x;exact Heap.lt_size e
 | rng lo hi=>obtain ⟨_,_,_,e⟩:=x;exact Heap.lt_size e
 | frz ob u=>obtain ⟨e,_⟩:=x;exact Heap.lt_size e
 | tbl ps=>exact Heap.lt_size (show h.get? a=some _ from x)
 | met f y=>exact Heap.lt_size (show h.get? a=some _ from x)
 | ext φ=>obtain ⟨_,⟨_,e⟩,_⟩:=x;exact Heap.lt_size e
theorem Paired.mapP {α β:Type} {F G:α->β->Prop}:∀{l₁:List α} {l₂:List β},Paired F l₁ l₂->(∀a b,F a b->G a b)->Paired G l₁ l₂
 | _,_,.nil,_=>.nil
 | _,_,.cons r t,f=>.cons (f _ _ r) (Paired.mapP t f)
theorem Paired.imp' {F G:α->β->Prop} (f:∀a b,F a b->G a b) {l₁:List α} {l₂:List β} (r:Paired F l₁ l₂):Paired G l₁ l₂:=Paired.mapP r f
theorem iV.stay (x:iV P w H h a o) (k:∀b u,(b=a\/H b=some (.own a))->h.get? b=some u->h'.get? b=some u)
  (ho:∀b,H b=some (.own a)->H' b=some (.own a)) (ht:∀b xs,H b=some (.tup xs)->H' b=some (.tup xs)):iV P w H' h' a o:=by
 induction o with
 | lst xs=>obtain ⟨z,its,n,r,e⟩:=x;exact ⟨z,its,n,r,k _ _ (.inl rfl) e⟩
 | tup xs=>obtain ⟨z,its,r,ob,e,c⟩:=x;exact ⟨z,its,r,ob,k _ _ (.inl rfl) e,c⟩
 | dK kvs=>obtain ⟨z,y,vs,r,ob,es,ep,e,c⟩:=x;exact ⟨z,y,vs,r,ob,es,ep,k _ _ (.inl rfl) e,c⟩
 | dT kvs =>
  obtain ⟨z,y,xs,r,ob,es,ep,e,c⟩:=x;exact ⟨z,y,xs,Paired.mapP r λp q z=>⟨z.1,ht _ _ z.2.1,z.2.2⟩,ob,es,ep,k _ _ (.inl rfl) e,c⟩
 | set S n=>obtain ⟨ob,es,ep,t,e,c⟩:=x;exact ⟨ob,es,ep,t,k _ _ (.inl rfl) e,c⟩
 | ins C dx fs =>
  obtain ⟨d,z,ne,e,mA,⟨od,es,ep,e2,c⟩,r⟩:=x;exact ⟨ho _ d,z,ne,k _ _ (.inl rfl) e,mA,⟨od,es,ep,k _ _ (.inr d) e2,c⟩,r⟩
 | own y=>obtain ⟨ob,e⟩:=x;exact ⟨ob,k _ _ (.inl rfl) e⟩
 | xd fs=>obtain ⟨mA,⟨od,es,ep,e,c⟩,r⟩:=x;exact ⟨mA,⟨od,es,ep,k _ _ (.inl rfl) e,c⟩,r⟩
 | rng lo hi=>obtain ⟨t,u,v,e⟩:=x;exact ⟨t,u,v,k _ _ (.inl rfl) e⟩
 | frz ob u ih=>obtain ⟨e,q⟩:=x;exact ⟨k _ _ (.inl rfl) e,ih q⟩
 | tbl ps =>
  have e:h.get? a=some { cls:=.none,data:=.fields ps }:=x;show h'.get? a=some { cls:=.none,data:=.fields ps }
  exact k a _ (.inl rfl) e
 | met f y =>
  have e:h.get? a=some (PySem.W.methodObj (.ref f) (.ref y)):=x;show h'.get? a=some (PySem.W.methodObj (.ref f) (.ref y))
  exact k a _ (.inl rfl) e
 | ext φ=>obtain ⟨p,⟨o,e⟩,st⟩:=x;exact ⟨st _ _ p λo q=>k _ _ (.inl rfl) q,⟨o,k _ _ (.inl rfl) e⟩,st⟩
theorem Ab.lt (x:Ab P w H h) (e:H a=some o):a < h.objs.size:=(x a o e).lt
theorem Ab.fresh (x:Ab P w H h) (e:h.objs.size<=a):H a=none:=by
 cases q:H a with
 | none=>rfl
 | some u=>exact absurd (bJ (x.lt q) e) (dW _)
theorem Ab.kept (x:Ab P w H h) (k:∀b u,h.get? b=some u->h'.get? b=some u):Ab P w H h':=λa o e =>
 (x a o e).stay (λb u _ q=>k b u q) (λ_ q=>q) λ_ _ q=>q
theorem Ab.laid (x:Ab P w H h) (k:∀b u,h.get? b=some u->h'.get? b=some u) (hp:h.objs.size<=a) (new:iV P w (upd H a o) h' a o):Ab P w (upd H a o) h':=λb u e=>by
 have hn:=x.fresh hp;by_cases hb:b=a
 ·subst hb;rw[aM] at e;cases e;exact new
 ·rw[bN hb] at e;exact (x b u e).stay (λc v _ q=>k c v q) (λc q=>by rw[bN (fo q hn)];exact q) λc xs q=>by rw[bN (fo q hn)];exact q
end
def Rd (H:Hp) (a:Addr) (u:HO):Prop:=H a=some u\/∃o,H a=some (.frz o u)
theorem Rd.ok (r:Rd H a u) (x:Ab P w H h):iV P w H h a u:=by
 rcases r with r | ⟨o,r⟩
 ·exact x a u r
 ·obtain ⟨_,q⟩:=x a _ r;exact q
def S8:Option HO->Prop
 | some (.lst _)=>True
 | some (.dK _)=>True
 | some (.dT _)=>True
 | some (.set _ _)=>True
 | some (.ins _ _ _)=>True
 | some (.ext _)=>True
 | _=>False
section
variable {P:Program} {w:World} {H:Hp} {h h':Heap} {x e:Addr} {o':HO}
theorem Ab.write (ok:Ab P w H h) (mu:S8 (H x)) (he:e=x\/H e=some (.own x)) (k:∀b u,b≠e->h.get? b=some u->h'.get? b=some u) (heo:∃u,h'.get? e=some u)
  (new:iV P w (upd H x o') h' x o'):Ab P w (upd H x o') h':=λb u q=>by
 have nown:∀c y,H c=some (.own y)->c≠x:=λc y r z=>by subst z;rw[r] at mu;exact mu
 have ntup:∀c xs,H c=some (.tup xs)->c≠x:=λc xs r z=>by subst z;rw[r] at mu;exact mu
 by_cases hb:b=x
 ·subst hb;rw[aM] at q;cases q;exact new
 ·rw[bN hb] at q;by_cases hbe:b=e
  ·have q':H b=some (.own x):=by
    rcases he with z | z
    ·exact absurd (hbe.trans z) hb
    ·rw[hbe];exact z
   rw[q] at q';cases q';obtain ⟨v,hv⟩:=heo;exact ⟨v,by rw[hbe];exact hv⟩
  ·refine (ok b u q).stay (λc v hc r=>k c v ?_ r) (λc r=>by rw[bN (nown c b r)];exact r) λc xs r=>by rw[bN (ntup c xs r)];exact r
   rcases hc with rfl | hc
   ·exact hbe
   ·rintro rfl;rcases he with z | z
    ·exact nown c b hc z
    ·rw[hc] at z;cases z;exact hb rfl
end
structure Un (fs ex:List Addr) (H H':Hp) (h h':Heap):Prop where
 keep:∀b o,h.get? b=some o->H b=none->b∉fs->b∉ex->h'.get? b=some o
 slot:∀b o,h.get? b=some o->H b=none->b∈fs->b∉ex->∃sl,h'.get? b=some { o with slots:=sl }
 free:∀b o,h.get? b=some o->H b=none->b∉ex->H' b=none
 there:∀b o,h.get? b=some o->b∉ex->∃o',h'.get? b=some o'
 tups:∀b xs,H b=some (.tup xs)->H' b=some (.tup xs)
 frzs:∀b o u,H b=some (.frz o u)->H' b=some (.frz o u)
 tbls:∀b ps,H b=some (.tbl ps)->∃more,H' b=some (.tbl (ps++more))
section
variable {fs fs' ex ex':List Addr} {H H1 H2:Hp} {h h1 h2 h':Heap} {a x e:Addr} {o:HO}
theorem Un.any (u:Un fs ex H H1 h h1) (q:h.get? b=some ob) (n:H b=none) (hx:b∉ex):∃sl,h1.get? b=some { ob with slots:=sl }:=by
 by_cases hb:b∈fs
 ·exact u.slot b ob q n hb hx
 ·exact ⟨ob.slots,u.keep b ob q n hb hx⟩
theorem Un.kept (k:∀b u,h.get? b=some u->h'.get? b=some u):Un fs ex H H h h' :=
 ⟨λb ob q _ _ _=>k b ob q,λb ob q _ _ _=>⟨ob.slots,k b ob q⟩,λ_ _ _ n _=>n,λb ob q _=>⟨ob,k b ob q⟩,λ_ _ q=>q,λ_ _ _ q=>q,λ_ ps q=>⟨#[],by rw[q];simp⟩⟩
theorem Un.refl:Un fs ex H H h h:=Un.kept λ_ _ q=>q
theorem Un.laid (k:∀b u,h.get? b=some u->h'.get? b=some u) (hp:h.objs.size<=a) (hn:H a=none):Un fs ex H (upd H a o) h h' where
 keep:=λb u q _ _ _=>k b u q
 slot:=λb u q _ _ _=>⟨u.slots,k b u q⟩
 free:=λb u q n _=>by rw[bN (cU (bJ (Heap.lt_size q) hp))];exact n
 there:=λb u q _=>⟨u,k b u q⟩
 tups:=λb xs q=>by rw[bN (fo q hn)];exact q
 frzs:=λb u xs q=>by rw[bN (fo q hn)];exact q
 tbls:=λb ps q=>⟨#[],by rw[bN (fo q hn),q];simp⟩
theorem Un.write (mu:S8 (H x)) (he:e=x\/H e=some (.own x)) (k:∀b u,b≠e->h.get? b=some u->h'.get? b=some u) (heo:∃u,h'.get? e=some u):Un fs ex H (upd H x o) h h':=by
 have hx:∀b,H b=none->b≠x:=λb n z=>by subst z;rw[n] at mu;exact mu
 have hb:∀b,H b=none->b≠e:=λb n z=>by
  subst z;rcases he with r | r
  ·exact hx b n r
  ·rw[n] at r;cases r
 have hm:∀b u,H b=some u->¬S8 (some u)->b≠x:=λb u q nm z=>by subst z;rw[q] at mu;exact nm mu
 refine ⟨λb u q n _ _=>k b u (hb b n) q,λb u q n _ _=>⟨u.slots,k b u (hb b n) q⟩,λb u q n _=>by rw[bN (hx b n)];exact n,λb u q _=>?_,
  λb xs q=>by rw[bN (hm b _ q λz=>z)];exact q,λb u xs q=>by rw[bN (hm b _ q λz=>z)];exact q,λb ps q=>⟨#[],by rw[bN (hm b _ q λz=>z),q];simp⟩⟩
 by_cases hbe:b=e
 ·subst hbe;exact heo
 ·exact ⟨u,k b u hbe q⟩
end
def S0 (h:Heap) (H:Hp):List Addr:=(List.range h.objs.size).filter λa=>(H a).isSome
def EO (h:Heap) (H:Hp):Heap:=PySem.W.hideAll h (S0 h H)
theorem Ko (h:Heap) (H:Hp):(EO h H).objs.size=h.objs.size:=PySem.W.hideAll_size _ _
theorem Mb (e:h.get? b=some o) (n:H b=none):(EO h H).get? b=some o :=
 PySem.W.hideAll_get _ e λhm=>by
  have q:(H b).isSome=true:=(lG.mp hm).2;rw[n] at q;simp at q
theorem NV (e:(EO h H).get? b=some o):h.get? b=some o/\H b=none:=by
 have e':h.get? b=some o:=PySem.W.of_hideAll (S0 h H) e;refine ⟨e',?_⟩;cases q:H b with
 | none=>rfl
 | some x =>
  have hm:b∈S0 h H:=lG.mpr ⟨nB.mpr (Heap.lt_size e'),by simp [q]⟩;have z:(EO h H).get? b=none:=PySem.W.hideAll_none (S0 h H) hm;rw[z] at e;cases e
structure Mod (K:FG9) (mg:Str->Option Value) (base:Heap):Prop where
 kin:K.In base
 glob:base.Ns mainGlobals mg
 blt:∃mb,base.Ns builtinsNs mb/\∀x:Str,x≠"__name__"->mb x=bootBuiltins x
 nolimit:base.NoLimit
structure Cx where
 prog:Program
 w:World
 K:FG9
 mg:Str->Option Value
 base:Heap
 A:Around
 N:List Str
 s₀:Shared
 H₀:Hp
 env:Env
 outer:List Env
 stack:List Env
 ex:List Addr
 fn:Str->Bool
 calm:Bool
 pn:List (Addr×Obj)
 xe:Value->Shared->Prop
def Kz (l:List Env):List Addr:=l.filterMap (·.frame)
abbrev Cx.fs (X:Cx):List Addr:=Kz X.outer
def Tq (sc:Scope) (x:Str):Prop:=sc.names.lookup x=some .local\/sc.names.lookup x=some .cell\/sc.names.lookup x=some .free
def Loc (sc:Scope) (x:Str):Prop:=sc.names.lookup x=some .local\/sc.names.lookup x=some .cell
def Look (env:Env) (h:Heap) (m:Str->Option Value) (x:Str) (u:Value):Prop :=
 (env.kindOf x=some .local/\m x=some u)\/((env.kindOf x=some .cell\/env.kindOf x=some .free)/\∃c,env.cells.lookup x=some c/\h.IsCell c (some u))
structure Cx.Ok (X:Cx):Prop where
 mod:Mod X.K X.mg X.base
 kind:X.env.scope.kind=.function
 glob:X.env.globals=mainGlobals
 blt:X.env.builtins=builtinsNs
 above:X.s₀.heap.objs.size<=X.env.locals
 inj:∀x y c,X.env.cells.lookup x=some c->X.env.cells.lookup y=some c->x=y
 has:∀x,(X.env.kindOf x=some .cell\/X.env.kindOf x=some .free)->∃c,X.env.cells.lookup x=some c
 cab:∀x c,X.fn x=true->X.env.cells.lookup x=some c->X.s₀.heap.objs.size<=c
 hd:X.calm=true->X.A.handled=none
 frames:X.A.frames=some X.stack
 stk:X.stack=X.outer\/(X.stack=X.env :: X.outer/\X.env.frame=some X.env.locals)
 exf:∀b∈X.ex,b≠X.env.locals/\∀x c,X.env.cells.lookup x=some c->c≠b
 bs:∀b o,X.base.get? b=some o->X.s₀.heap.get? b=some o/\X.H₀ b=none
 bsz:X.base.objs.size<=X.s₀.heap.objs.size
 noex:∀b o,X.base.get? b=some o->b∉X.ex
 exfs:∀b∈X.ex,b∉X.fs
 funs:X.s₀.heap.FunFrames X.base X.outer
 frf:∀b∈X.fs,X.H₀ b=none
structure Inv (X:Cx) (pins:List (Addr×Obj)) (σ:List (Option V)) (H:Hp) (s:Shared):Prop where
 ok:X.Ok
 os:s.os=X.s₀.os
 bare:AllBare s.gens
 base:Un X.fs X.ex X.H₀ H X.s₀.heap s.heap
 loc:∃m,s.heap.Ns X.env.locals m/\∀(i:Nat) (x:Str) (v:V),X.N[i]?=some x->σ[i]?=some (some v)->Tq X.env.scope x->∃u,RelV v u/\Look X.env s.heap m x u
 cell:∀x c,X.env.cells.lookup x=some c->∃v,s.heap.IsCell c v
 free:H X.env.locals=none
 freeC:∀x c,X.env.cells.lookup x=some c->H c=none
 pin:∀p∈X.pn++pins,s.heap.get? p.1=some p.2/\H p.1=none/\p.1≠X.env.locals/\p.1∉X.fs/\∀v,p.2.data≠.cell v
 hok:Ab X.prog X.w H s.heap
 len:σ.length=X.N.length
section
variable {X:Cx} {pins:List (Addr×Obj)} {σ:List (Option V)} {H H':Hp} {s:Shared} {h':Heap}
theorem Cx.Ok.nofr (ok:X.Ok) (e:X.base.get? b=some o):b∉X.fs:=λhb=>by
 have:=(ok.funs.mem hb).1;rw[e] at this;cases this
theorem Inv.bs (I:Inv X pins σ H s):∀b o,X.base.get? b=some o->s.heap.get? b=some o/\H b=none:=λb o e =>
 ⟨I.base.keep b o (I.ok.bs b o e).1 (I.ok.bs b o e).2 (I.ok.nofr e) (I.ok.noex b o e),I.base.free b o (I.ok.bs b o e).1 (I.ok.bs b o e).2 (I.ok.noex b o e)⟩
theorem Inv.bk (I:Inv X pins σ H s):∀b o,X.base.get? b=some o->s.heap.get? b=some o:=λb o e=>(I.bs b o e).1
theorem Inv.mod (I:Inv X pins σ H s):Mod X.K X.mg X.base:=I.ok.mod
theorem Inv.kIn (I:Inv X pins σ H s):X.K.In s.heap:=I.ok.mod.kin.keeps I.bk
theorem Inv.lt (I:Inv X pins σ H s):X.env.locals < s.heap.objs.size:=let ⟨_,hn,_⟩:=I.loc;hn.lt
theorem Inv.sz (I:Inv X pins σ H s):X.s₀.heap.objs.size<=s.heap.objs.size:=ai I.ok.above (aT I.lt)
theorem Inv.nofs (I:Inv X pins σ H s) {a:Addr} (h:s.heap.objs.size<=a):a∉X.fs:=λhb=>by
 obtain ⟨_,o,ho,_⟩:=I.ok.funs.mem hb;exact absurd (bJ (Heap.lt_size ho) (ai I.sz h)) (dW _)
theorem Inv.cne (I:Inv X pins σ H s):∀x c,X.env.cells.lookup x=some c->c≠X.env.locals:=λx c e z=>by
 obtain ⟨v,o,ho,hd⟩:=I.cell x c e;obtain ⟨m,⟨o',es,ep,ho',hd',_⟩,_⟩:=I.loc;rw[z,ho'] at ho;cases ho;rw[hd'] at hd;cases hd
theorem Inv.funs (I:Inv X pins σ H s):s.heap.FunFrames X.base X.outer:=by
 have all:∀(l:List Env),(∀b∈Kz l,b∈X.fs)->X.s₀.heap.FunFrames X.base l->s.heap.FunFrames X.base l:=by
  intro l
  induction l with
  | nil=>intro _ _;trivial
  | cons env r ih =>
   intro hs hl;obtain ⟨hk,⟨L,o,hf,hn,ho,hd⟩,hr⟩:=hl;have hL:L∈X.fs:=hs L (by unfold Kz;rw[Fh,hf];exact dt);obtain ⟨sl,e⟩:=I.base.slot L o ho (I.ok.frf L hL) hL λz=>I.ok.exfs L z hL
   exact ⟨hk,⟨L,_,hf,hn,e,hd⟩,ih (λb hb=>hs b (by unfold Kz;rw[Fh,hf];exact ck _ hb)) hr⟩
 exact all X.outer (λ_ hb=>hb) I.ok.funs
theorem Inv.stack (I:Inv X pins σ H s):s.heap.FunFrames X.base X.stack:=by
 rcases I.ok.stk with e | ⟨e,hf⟩
 ·rw[e];exact I.funs
 ·rw[e];obtain ⟨m,hn,_⟩:=I.loc;refine .cons (by rw[I.ok.kind];decide) hf hn ?_ I.funs;exact Heap.get?_none_of_le (ai I.ok.bsz I.ok.above)
theorem Inv.stkSub (I:Inv X pins σ H s):∀b∈Kz X.stack,b∈X.env.locals :: X.fs:=λb hb=>by
 rcases I.ok.stk with e | ⟨e,hf⟩
 ·rw[e] at hb;exact ck _ hb
 ·rw[e] at hb;unfold Kz at hb;rw[Fh,hf] at hb;exact hb
theorem Inv.stkFree (I:Inv X pins σ H s):∀b∈Kz X.stack,H b=none:=λb hb=>by
 rcases aG.mp (I.stkSub b hb) with e | hb
 ·rw[e];exact I.free
 ·obtain ⟨_,o,ho,_⟩:=I.ok.funs.mem hb;exact I.base.free b o ho (I.ok.frf b hb) λz=>I.ok.exfs b z hb
theorem Inv.step {ch:List Addr} (I:Inv X pins σ H s)
  (hch:∀b∈ch,(b∈X.ex\/X.s₀.heap.objs.size<=b)/\b≠X.env.locals/\(∀x c,X.env.cells.lookup x=some c->c≠b)/\∀p∈X.pn++pins,p.1≠b)
  (keep:∀b o,b≠X.env.locals->b∉X.fs->b∉ch->s.heap.get? b=some o->H b=none->h'.get? b=some o)
  (slot:∀b o,b≠X.env.locals->b∈X.fs->b∉ch->s.heap.get? b=some o->H b=none->∃sl,h'.get? b=some { o with slots:=sl }) (free:∀b o,b∉ch->s.heap.get? b=some o->H b=none->H' b=none)
  (there:∀b o,b∉ch->s.heap.get? b=some o->∃o',h'.get? b=some o')
  (tups:∀b xs,H b=some (.tup xs)->H' b=some (.tup xs)) (frzs:∀b o u,H b=some (.frz o u)->H' b=some (.frz o u)) (tbls:∀b ps,H b=some (.tbl ps)->∃more,H' b=some (.tbl (ps++more)))
  (ns:∀m,s.heap.Ns X.env.locals m->h'.Ns X.env.locals m) (hok:Ab X.prog X.w H' h') (hg:AllBare g') :
  Inv X pins σ H' { s with heap:=h',gens:=g',drawn:=d',toks:=t' }:=by
 have neL:∀b o,X.s₀.heap.get? b=some o->b≠X.env.locals:=λb o e=>cU (bJ (Heap.lt_size e) I.ok.above)
 have neC:∀b o,X.s₀.heap.get? b=some o->b∉X.ex->b∉ch:=λb o e hx hb=>by
  rcases (hch b hb).1 with z | z
  ·exact hx z
  ·exact absurd (bJ (Heap.lt_size e) z) (dW _)
 have cellK:∀x c,X.env.cells.lookup x=some c->∀v,s.heap.IsCell c v->h'.IsCell c v:=λx c e v ⟨o,ho,hd⟩=>by
  have nch:c∉ch:=λz=>(hch c z).2.2.1 x c e rfl
  by_cases hc:c∈X.fs
  ·obtain ⟨sl,q⟩:=slot c o (I.cne x c e) hc nch ho (I.freeC x c e);exact ⟨_,q,hd⟩
  ·exact ⟨o,keep c o (I.cne x c e) hc nch ho (I.freeC x c e),hd⟩
 refine ⟨I.ok,I.os,hg,⟨λb o e n hb hx=>?_,λb o e n hb hx=>?_,λb o e n hx=>?_,λb o e hx=>?_,λb xs e=>tups b xs (I.base.tups b xs e),λb o xs e=>frzs b o xs (I.base.frzs b o xs e),λb ps e=>?_⟩,?_,λx c e=>?_,?_,λx c e=>?_,λp hp=>?_,hok,I.len⟩
 ·exact keep b o (neL b o e) hb (neC b o e hx) (I.base.keep b o e n hb hx) (I.base.free b o e n hx)
 ·obtain ⟨sl,e1⟩:=I.base.slot b o e n hb hx;obtain ⟨sl',e2⟩:=slot b _ (neL b o e) hb (neC b o e hx) e1 (I.base.free b o e n hx);exact ⟨sl',e2⟩
 ·obtain ⟨o',e1⟩:=I.base.there b o e hx;exact free b o' (neC b o e hx) e1 (I.base.free b o e n hx)
 ·obtain ⟨o',e1⟩:=I.base.there b o e hx;exact there b o' (neC b o e hx) e1
 ·obtain ⟨m1,e1⟩:=I.base.tbls b ps e;obtain ⟨m2,e2⟩:=tbls b _ e1;exact ⟨m1++m2,by rw[e2,Array.append_assoc]⟩
 ·obtain ⟨m,hn,hl⟩:=I.loc;refine ⟨m,ns m hn,λi x v e1 e2 e3=>?_⟩;obtain ⟨u,r,l⟩:=hl i x v e1 e2 e3;refine ⟨u,r,?_⟩;rcases l with l | ⟨k,c,e,z⟩
  ·exact .inl l
  ·exact .inr ⟨k,c,e,cellK x c e _ z⟩
 ·obtain ⟨v,z⟩:=I.cell x c e;exact ⟨v,cellK x c e v z⟩
 ·obtain ⟨m,⟨o,_,_,ho,_⟩,_⟩:=I.loc;exact free _ o (λz=>(hch _ z).2.1 rfl) ho I.free
 ·obtain ⟨v,o,ho,hd⟩:=I.cell x c e;exact free c o (λz=>(hch c z).2.2.1 x c e rfl) ho (I.freeC x c e)
 ·obtain ⟨e,n,ne,nf,d⟩:=I.pin p hp;have nch:p.1∉ch:=λz=>(hch p.1 z).2.2.2 p hp rfl
  exact ⟨keep p.1 p.2 ne nf nch e n,free p.1 p.2 nch e n,ne,nf,d⟩
theorem Inv.un (I:Inv X pins σ H s) (u:Un X.fs [] H H' s.heap h') (hok:Ab X.prog X.w H' h'):Inv X pins σ H' { s with heap:=h',toks:=t' }:=by
 obtain ⟨m,⟨o,es,ep,ho,r⟩,_⟩:=id I.loc;obtain ⟨sl,hL⟩:=u.any ho I.free (by simp)
 exact I.step (g':=s.gens) (d':=s.drawn) (ch:=[]) (λ_ z=>nomatch z) (λb o _ hb _ e n=>u.keep b o e n hb (by simp)) (λb o _ hb _ e n=>u.slot b o e n hb (by simp)) (λb o _ e n=>u.free b o e n (by simp)) (λb o _ e=>u.there b o e (by simp)) u.tups u.frzs u.tbls (λm' hm=>by
  obtain ⟨o',es',ep',ho',r'⟩:=hm;rw[ho] at ho';cases ho';exact ⟨_,es',ep',hL,r'⟩) hok I.bare
theorem Inv.call (I:Inv X pins σ H s) (u:Un (Kz X.stack) ch H H' s.heap h') (hok:Ab X.prog X.w H' h') (hg:AllBare g')
  (hch:∀b∈ch,(b∈X.ex\/X.s₀.heap.objs.size<=b)/\b≠X.env.locals/\(∀x c,X.env.cells.lookup x=some c->c≠b)/\∀p∈X.pn++pins,p.1≠b) :
  Inv X pins σ H' { s with heap:=h',gens:=g',drawn:=d',toks:=t' }:=by
 obtain ⟨m,⟨o,es,ep,ho,r⟩,_⟩:=id I.loc;obtain ⟨sl,hL⟩:=u.any ho I.free λz=>(hch _ z).2.1 rfl
 exact I.step (ch:=ch) hch (λb o hL hb hc e n=>u.keep b o e n (λz=>(aG.mp (I.stkSub b z)).elim hL hb) hc) (λb o _ _ hc e n=>u.any e n hc) (λb o hc e n=>u.free b o e n hc) (λb o hc e=>u.there b o e hc) u.tups u.frzs u.tbls (λm' hm=>by
  obtain ⟨o',es',ep',ho',r'⟩:=hm;rw[ho] at ho';cases ho';exact ⟨_,es',ep',hL,r'⟩) hok hg
theorem Inv.turned (I:Inv X pins σ H s) (k:∀b o,b≠it->s.heap.get? b=some o->h'.get? b=some o) (hn:H it=none) (hL:it≠X.env.locals)
  (h1:it∈X.ex\/X.s₀.heap.objs.size<=it) (h2:∀x c,X.env.cells.lookup x=some c->c≠it) (h3:∀p∈X.pn++pins,p.1≠it):Inv X pins σ H { s with heap:=h',toks:=t' }:=by
 have nit:∀b u,H b=some u->b≠it:=λb u e z=>by rw[z,hn] at e;cases e
 refine I.step (g':=s.gens) (d':=s.drawn) (ch:=[it]) (λb hb=>?_) (λb o _ _ hc e _=>k b o (λz=>hc (by simp [z])) e) (λb o _ _ hc e _=>⟨o.slots,k b o (λz=>hc (by simp [z])) e⟩) (λ_ _ _ _ n=>n)
  (λb o hc e=>⟨o,k b o (λz=>hc (by simp [z])) e⟩) (λ_ _ e=>e) (λ_ _ _ e=>e) (λb ps e=>⟨#[],by rw[e];simp⟩) (λm hm=>?_) (λb u e=>?_) I.bare
 ·have e:b=it:=by simpa using hb
  subst e;exact ⟨h1,hL,h2,h3⟩
 ·obtain ⟨o,es,ep,ho,r⟩:=hm;exact ⟨o,es,ep,k _ o (Ne.symm hL) ho,r⟩
 ·refine (I.hok b u e).stay (λc v hc q=>k c v ?_ q) (λ_ q=>q) λ_ _ q=>q
  rcases hc with z | z
  ·rw[z];exact nit b u e
  ·exact nit c _ z
theorem Inv.tok (I:Inv X pins σ H s) (t:Nat):Inv X pins σ H { s with toks:=t }:=I.un (h':=s.heap) (t':=t) Un.refl I.hok
theorem Inv.kept (I:Inv X pins σ H s) (k:∀b u,s.heap.get? b=some u->h'.get? b=some u):Inv X pins σ H { s with heap:=h',toks:=t' }:=I.un (Un.kept k) (I.hok.kept k)
theorem Inv.laid {a:Addr} (I:Inv X pins σ H s) (k:∀b u,s.heap.get? b=some u->h'.get? b=some u) (hp:s.heap.objs.size<=a) (new:iV X.prog X.w (upd H a o) h' a o) :
  Inv X pins σ (upd H a o) { s with heap:=h',toks:=t' }:=I.un (Un.laid k hp (I.hok.fresh hp)) (I.hok.laid k hp new)
theorem Inv.write (I:Inv X pins σ H s) (mu:S8 (H x)) (he:e=x\/H e=some (.own x)) (k:∀b u,b≠e->s.heap.get? b=some u->h'.get? b=some u) (heo:∃u,h'.get? e=some u)
  (new:iV X.prog X.w (upd H x o) h' x o):Inv X pins σ (upd H x o) { s with heap:=h',toks:=t' }:=I.un (Un.write mu he k heo) (I.hok.write mu he k heo new)
theorem Inv.pins_of (I:Inv X pins σ H s) (h:∀p∈pins',s.heap.get? p.1=some p.2/\H p.1=none/\p.1≠X.env.locals/\p.1∉X.fs/\∀v,p.2.data≠.cell v):Inv X pins' σ H s :=
 ⟨I.ok,I.os,I.bare,I.base,I.loc,I.cell,I.free,I.freeC,λp hp=>(az.mp hp).elim (λz=>I.pin p (eT _ z)) (h p),I.hok,I.len⟩
theorem F3 {N:List Str} (hN:N.Nodup) {i j:Nat} (a:N[i]?=some x) (b:N[j]?=some x):i=j:=by
 obtain ⟨h1,e1⟩:=aF.mp a;obtain ⟨h2,e2⟩:=aF.mp b;exact (List.getElem_inj hN).mp (e1.trans e2.symm)
theorem Cq {M:Model} {A:Around} {E:Value->Shared->Prop} {i:Nat} {x:Str} {v:V} {u:Value} {Q:Unit->Shared->Prop} (I:Inv X pins σ H s) (hN:X.N.Nodup) (hi:X.N[i]?=some x) (hx:Loc X.env.scope x) (r:RelV v u)
  (h:∀s',Inv X pins (σ.set i (some v)) H s'->(∃a,Heap.SameBut a s.heap s'.heap/\(a=X.env.locals\/X.env.cells.lookup x=some a))->Q () s') (hf:X.fn x=true\/X.env.scope.names.lookup x=some .local:=by first | exact .inl rfl | exact .inr rfl | assumption):wpAny M A (storeName X.env x u) Q E s:=by
 obtain ⟨m,hn,hl⟩:=id I.loc;have hcls:(X.env.scope.kind == .class || (X.env.scope.kind == .module && X.env.locals != X.env.globals))=false:=by rw[I.ok.kind];rfl
 have hiσ:i < σ.length:=by rw[I.len];exact (aF.mp hi).1
 have cne:=I.cne
 have tracked:∀{a:Addr} {h':Heap},(∃o,s.heap.get? a=some o/\H a=none)->Heap.SameBut a s.heap h'->Ab X.prog X.w H h':=λ{a h'} ha hs b ob e=>by
  obtain ⟨_,_,hfree⟩:=ha;refine (I.hok b ob e).stay (λc w' hc q=>(hs.2 c ?_).trans q) (λ_ q=>q) λ_ _ q=>q
  rintro rfl;rcases hc with rfl | hc
  ·rw[hfree] at e;cases e
  ·rw[hfree] at hc;cases hc
 rcases hx with hk | hk
 ·refine wpAny_storeName_local hk hn (λh' hn' hs=>?_) hcls;obtain ⟨oL,_,_,hoL,_⟩:=id hn;refine h _ ⟨I.ok,I.os,I.bare,⟨λb o e n hb hx=>?_,λb o e n hb hx=>?_,I.base.free,λb o e hx=>?_,I.base.tups,I.base.frzs,I.base.tbls⟩,⟨_,hn',λj y v' e1 e2 e3=>?_⟩,λy c e=>?_,I.free,I.freeC,λp hp=>?_,tracked ⟨oL,hoL,I.free⟩ hs,by simpa using I.len⟩ ⟨_,hs,.inl rfl⟩
  ·exact (hs.2 b (cU (bJ (Heap.lt_size e) I.ok.above))).trans (I.base.keep b o e n hb hx)
  ·obtain ⟨sl,e1⟩:=I.base.slot b o e n hb hx;exact ⟨sl,(hs.2 b (cU (bJ (Heap.lt_size e) I.ok.above))).trans e1⟩
  ·obtain ⟨o',e1⟩:=I.base.there b o e hx;exact ⟨o',(hs.2 b (cU (bJ (Heap.lt_size e) I.ok.above))).trans e1⟩
  ·by_cases hj:j=i
   ·subst hj;rw[hi] at e1;cases e1;rw[List.getElem?_set_self hiσ] at e2;cases e2;exact ⟨u,r,.inl ⟨hk,by simp⟩⟩
   ·rw[List.getElem?_set_ne (Ne.symm hj)] at e2;obtain ⟨u',r',q⟩:=hl j y v' e1 e2 e3;refine ⟨u',r',?_⟩;rcases q with ⟨k,e⟩ | ⟨k,c,e,z⟩
    ·refine .inl ⟨k,?_⟩;have:y≠x:=λe=>hj (F3 hN e1 (e ▸ hi))
     simp [this,e]
    ·exact .inr ⟨k,c,e,z.sameBut hs (cne y c e)⟩
  ·obtain ⟨w',z⟩:=I.cell y c e;exact ⟨w',z.sameBut hs (cne y c e)⟩
  ·obtain ⟨e,n,ne,nf,d⟩:=I.pin p hp;exact ⟨(hs.2 p.1 ne).trans e,n,ne,nf,d⟩
 ·have hfn:X.fn x=true:=by
   rcases hf with z | z
   ·exact z
   ·rw[z] at hk;cases hk
  obtain ⟨c,hc⟩:=I.ok.has x (.inl hk);obtain ⟨w',z⟩:=I.cell x c hc;refine wpAny_storeName_cell I.ok.kind hk hc z (λh' hc' hs=>?_);obtain ⟨oc,hoc,hocd⟩:=id z;refine h { s with heap:=h' } ⟨I.ok,I.os,I.bare,⟨λb o e n hb hx=>?_,λb o e n hb hx=>?_,I.base.free,λb o e hx=>?_,I.base.tups,I.base.frzs,I.base.tbls⟩,⟨m,hn.sameBut hs (Ne.symm (cne x c hc)),λj y v' e1 e2 e3=>?_⟩,λy c' e=>?_,I.free,I.freeC,λp hp=>?_,tracked ⟨oc,hoc,I.freeC x c hc⟩ hs,by simpa using I.len⟩ ⟨c,hs,.inr hc⟩
  ·exact (hs.2 b (cU (bJ (Heap.lt_size e) (I.ok.cab x c hfn hc)))).trans (I.base.keep b o e n hb hx)
  ·obtain ⟨sl,e1⟩:=I.base.slot b o e n hb hx;exact ⟨sl,(hs.2 b (cU (bJ (Heap.lt_size e) (I.ok.cab x c hfn hc)))).trans e1⟩
  ·obtain ⟨o',e1⟩:=I.base.there b o e hx;exact ⟨o',(hs.2 b (cU (bJ (Heap.lt_size e) (I.ok.cab x c hfn hc)))).trans e1⟩
  ·by_cases hj:j=i
   ·subst hj;rw[hi] at e1;cases e1;rw[List.getElem?_set_self hiσ] at e2;cases e2;exact ⟨u,r,.inr ⟨.inl hk,c,hc,hc'⟩⟩
   ·rw[List.getElem?_set_ne (Ne.symm hj)] at e2;obtain ⟨u',r',q⟩:=hl j y v' e1 e2 e3;refine ⟨u',r',?_⟩;rcases q with q | ⟨k,c',e,z'⟩
    ·exact .inl q
    ·refine .inr ⟨k,c',e,z'.sameBut hs ?_⟩;rintro rfl;exact hj (F3 hN e1 (I.ok.inj _ _ _ e hc ▸ hi))
  ·by_cases hcc:c'=c
   ·subst hcc;exact ⟨_,hc'⟩
   ·obtain ⟨w2,z2⟩:=I.cell y c' e;exact ⟨w2,z2.sameBut hs hcc⟩
  ·obtain ⟨e,n,ne,nf,d⟩:=I.pin p hp;refine ⟨(hs.2 p.1 ?_).trans e,n,ne,nf,d⟩;intro q;rw[q,hoc] at e;have q':oc=p.2:=cv e;exact d w' (by rw[<- q'];exact hocd)
theorem vh {M:Model} {A:Around} {E:Value->Shared->Prop} {i:Nat} {x:Str} {v:V} {u:Value} {Q:Unit->Shared->Prop} (I:Inv X pins σ H s) (hN:X.N.Nodup) (hi:X.N[i]?=some x) (hx:Loc X.env.scope x) (r:RelV v u)
  (h:∀s',Inv X pins (σ.set i (some v)) H s'->Q () s') (hf:X.fn x=true\/X.env.scope.names.lookup x=some .local:=by first | exact .inl rfl | exact .inr rfl | assumption):wpAny M A (storeName X.env x u) Q E s :=
 Cq I hN hi hx r (λs' I' _=>h s' I') hf
theorem Inv.call' (I:Inv X pins σ H s) (ho:s'.os=s.os) (u:Un (Kz X.stack) ch H H' s.heap s'.heap) (hok:Ab X.prog X.w H' s'.heap) (hg:AllBare s'.gens)
  (hch:∀b∈ch,(b∈X.ex\/X.s₀.heap.objs.size<=b)/\b≠X.env.locals/\(∀x c,X.env.cells.lookup x=some c->c≠b)/\∀p∈X.pn++pins,p.1≠b):Inv X pins σ H' s':=by
 obtain ⟨h',g',d',t',o'⟩:=s';have e:o'=s.os:=ho;subst e;exact I.call (g':=g') (t':=t') (d':=d') u hok hg hch
end
abbrev XK:=Value->Option Addr->Hp->Prop
abbrev St:=List (Option V)
abbrev VK:=V->Hp->Prop
abbrev TE:=St->Hp->VK->Prop
abbrev TT:=St->Hp->(Bool->Hp->Prop)->Prop
abbrev TA:=St->Hp->(List V->Hp->Prop)->Prop
structure Ends where
 nx:St->Hp->Prop
 rt:VK
 bk:St->Hp->Prop:=λ_ _=>False
 ct:St->Hp->Prop:=λ_ _=>False
abbrev TS:=Ends->St->Hp->Prop
def EP (X:Cx) (pins:List (Addr×Obj)) (σ:St) (Q:VK) (u:Value) (s':Shared):Prop:=∃v H',Inv X pins σ H' s'/\RelV v u/\Q v H'
def TP (X:Cx) (pins:List (Addr×Obj)) (σ:St) (Q:Bool->Hp->Prop) (b:Bool) (s':Shared):Prop:=∃H',Inv X pins σ H' s'/\Q b H'
def AP (X:Cx) (pins:List (Addr×Obj)) (σ:St) (Q:List V->Hp->Prop) (us:List Value) (s':Shared):Prop:=∃vs H',Inv X pins σ H' s'/\cQ vs us/\Q vs H'
def SP (X:Cx) (pins:List (Addr×Obj)) (D:Ends) (f:Flow) (s':Shared):Prop :=
 match f with
 | .next=>∃σ' H',Inv X pins σ' H' s'/\D.nx σ' H'
 | .brk=>∃σ' H',Inv X pins σ' H' s'/\D.bk σ' H'
 | .cont=>∃σ' H',Inv X pins σ' H' s'/\D.ct σ' H'
 | .ret u=>∃v σ' H',Inv X pins σ' H' s'/\RelV v u/\D.rt v H'
def PE (X:Cx) (e:Expr) (t:TE):Prop :=
 ∀(pins:List (Addr×Obj)) (s:Shared) (σ:St) (H:Hp) (Q:VK),Inv X pins σ H s->t σ H Q->wpAny (model X.prog X.w) X.A (eval e X.env) (EP X pins σ Q) X.xe s
def PT (X:Cx) (e:Expr) (t:TT):Prop :=
 ∀(pins:List (Addr×Obj)) (s:Shared) (σ:St) (H:Hp) (Q:Bool->Hp->Prop),Inv X pins σ H s->t σ H Q->wpAny (model X.prog X.w) X.A (isTrue e X.env (eval e X.env)) (TP X pins σ Q) X.xe s
def PW (X:Cx) (e:Expr) (t:TT):Prop :=
 ∀(whole:Sem Value) (pins:List (Addr×Obj)) (s:Shared) (σ:St) (H:Hp) (Q:Bool->Hp->Prop),Inv X pins σ H s->t σ H Q->wpAny (model X.prog X.w) X.A (isTrue e X.env whole) (TP X pins σ Q) X.xe s
theorem PW.pt (h:PW X e t):PT X e t:=h _
def PA (X:Cx) (es:List Expr) (t:TA):Prop :=
 ∀(pos:Pos) (pins:List (Addr×Obj)) (s:Shared) (σ:St) (H:Hp) (Q:List V->Hp->Prop),Inv X pins σ H s->t σ H Q->wpAny (model X.prog X.w) X.A (spliced (backTo pos (starEach es X.env))) (AP X pins σ Q) X.xe s
def PS (X:Cx) (st:Stmt) (t:TS):Prop :=
 ∀(pins:List (Addr×Obj)) (s:Shared) (σ:St) (H:Hp) (D:Ends),Inv X pins σ H s->t D σ H->wpAny (model X.prog X.w) X.A (exec st X.env) (SP X pins D) X.xe s
def Io (X:Cx) (st:List Stmt) (t:TS):Prop :=
 ∀(pins:List (Addr×Obj)) (s:Shared) (σ:St) (H:Hp) (D:Ends),Inv X pins σ H s->t D σ H->wpAny (model X.prog X.w) X.A (execs st X.env) (SP X pins D) X.xe s
theorem fY {t:Sem α} {Q Q':α->Shared->Prop} (h:wpAny M A t Q E s) (hQ:∀a s,Q a s->Q' a s):wpAny M A t Q' E s:=wpAny_mono h hQ λ_ _ x=>x
section
variable {X:Cx}
def Pq (i:Nat):TE:=λσ H Q=>∃v,σ[i]?=some (some v)/\Q v H
def tC (v:V):TE:=λ_ H Q=>Q v H
theorem Qn {i:Nat} {x:Str} {pos:Pos} (hN:X.N[i]?=some x) (hv:Tq X.env.scope x) (hd:(x == ("__debug__":Str))=false:=by decide) (hcd:(x == ("__classdict__":Str))=false:=by decide):PE X (.Name x pos) (Pq i):=by
 intro pins s σ H Q I h;obtain ⟨v,e,h⟩:=h;obtain ⟨m,hn,hl⟩:=I.loc;obtain ⟨u,r,l⟩:=hl i x v hN e hv;have fin:EP X pins σ Q u s:=⟨v,H,I,r,h⟩;rcases l with ⟨hk,hm⟩ | ⟨hk,c,hc,hcell⟩
 ·exact wpAny_Name (wpAny_loadName_local I.ok.kind hk hn hm fin) hd
 ·rcases hk with hk | hk
  ·exact wpAny_Name (wpAny_loadName_cell I.ok.kind hk hc hcell fin) hd
  ·exact wpAny_Name (wpAny_loadName_free I.ok.kind hk hc hcell fin hcd) hd
theorem au:PE X (.Constant (.int i) j pos) (tC (.int i)):=λ_ _ _ H _ I h=>wpAny_Constant_int ⟨.int i,H,I.tok _,⟨_,rfl⟩,h⟩
theorem tG:PE X (.Constant (.bool b) j pos) (tC (.bl b)):=λ_ _ _ H _ I h=>Constant_bool ⟨.bl b,H,I,rfl,h⟩
theorem Ep:PE X (.Constant .none j pos) (tC .non):=λ_ _ _ H _ I h=>Constant_none ⟨.non,H,I,rfl,h⟩
def Gl (X:Cx) (x:Str):Prop:=X.env.kindOf x=some .globalImplicit
theorem EI {E:Value->Shared->Prop} {pins:List (Addr×Obj)} {s:Shared} {σ:St} {H:Hp} {x:Str} {u:Value} {pos:Pos} {Q:Value->Shared->Prop} (I:Inv X pins σ H s) (hg:Gl X x) (hm:X.mg x=some u) (h:Q u s)
  (hd:(x == ("__debug__":Str))=false:=by decide):wpAny (model X.prog X.w) X.A (eval (.Name x pos) X.env) Q E s :=
 Calls.Name_function_global I.ok.kind hg (Calls.loadGlobal_global (by rw[I.ok.glob];exact I.mod.glob.keeps I.bk) hm h) hd
theorem jo {E:Value->Shared->Prop} {pins:List (Addr×Obj)} {s:Shared} {σ:St} {H:Hp} {x:Str} {u:Value} {pos:Pos} {Q:Value->Shared->Prop} (I:Inv X pins σ H s) (hg:Gl X x) (hm:X.mg x=none) (hv:bootBuiltins x=some u) (h:Q u s)
  (hn:x≠"__name__":=by decide) (hd:(x == ("__debug__":Str))=false:=by decide):wpAny (model X.prog X.w) X.A (eval (.Name x pos) X.env) Q E s:=by
 obtain ⟨mb,h1,h2⟩:=I.mod.blt;exact Calls.Name_function_global I.ok.kind hg (Calls.loadGlobal_builtin (by rw[I.ok.glob];exact I.mod.glob.keeps I.bk) hm (by rw[I.ok.blt];exact h1.keeps I.bk) ((h2 x hn).trans hv) h) hd
theorem mW {x:Str} {v:V} {u:Value} {pos:Pos} (hg:Gl X x) (hm:X.mg x=some u) (r:RelV v u) (hd:(x == ("__debug__":Str))=false:=by decide):PE X (.Name x pos) (tC v) :=
 λ_ _ _ H _ I h=>EI I hg hm ⟨v,H,I,r,h⟩ hd
theorem IZ {x:Str} {v:V} {u:Value} {pos:Pos} (hg:Gl X x) (hm:X.mg x=none) (hv:bootBuiltins x=some u) (r:RelV v u) (hn:x≠"__name__":=by decide) (hd:(x == ("__debug__":Str))=false:=by decide):PE X (.Name x pos) (tC v) :=
 λ_ _ _ H _ I h=>jo I hg hm hv ⟨v,H,I,r,h⟩ hn hd
variable {a b:Expr} {ta tb:TE} {pos:Pos}
def tB (t:TE):TT:=λσ H Q=>t σ H λx H1=>∃c,x=.bl c/\Q c H1
theorem jG {e:Expr} {t:TE} (h:PE X e t) (he:∀whole,isTrue e X.env whole=(do let v <- whole;standAt e.pos;holding [v] (truthy v)):=by intro _;rfl):PT X e (tB t):=by
 intro pins s σ H Q I hw;refine isTrue_plain (fY (h pins s σ H _ I hw) λv s1 ⟨x,H1,I1,r1,q1⟩=>?_) (he _);obtain ⟨d,rfl,q⟩:=q1;cases r1;exact wpAny_truthy_bool ⟨H1,I1,q⟩
variable {tA tB':TT} {rest:List Expr}
def RO (t u:TT):TT:=λσ H Q=>t σ H λc H1=>if c=true then u σ H1 Q else Q false H1
def tOr (t u:TT):TT:=λσ H Q=>t σ H λc H1=>if c=true then Q true H1 else u σ H1 Q
def RI (t:TT):TT:=λσ H Q=>t σ H λc H1=>Q (!c) H1
theorem kR (ha:PT X a tA):PW X (.BoolOp .And [a] pos) tA:=by
 intro wh pins s σ H Q I h;refine isTrue_and (fY (ha pins s σ H Q I h) λc s1 e=>?_);cases c with
 | true=>exact isTrue_and_nil e
 | false=>exact e
theorem ja (ha:PT X a tA):PW X (.BoolOp .Or [a] pos) tA:=by
 intro wh pins s σ H Q I h;refine isTrue_or (fY (ha pins s σ H Q I h) λc s1 e=>?_);cases c with
 | false=>exact isTrue_or_nil e
 | true=>exact e
theorem jF (ha:PT X a tA) (hb:PW X (.BoolOp .And (b :: rest) pos) tB'):PW X (.BoolOp .And (a :: b :: rest) pos) (RO tA tB'):=by
 intro wh pins s σ H Q I h;refine isTrue_and (fY (ha pins s σ H _ I h) λc s1 ⟨H1,I1,q1⟩=>?_);cases c with
 | true=>exact hb wh pins s1 σ H1 Q I1 q1
 | false=>exact ⟨H1,I1,q1⟩
theorem mV (ha:PT X a tA) (hb:PW X (.BoolOp .Or (b :: rest) pos) tB'):PW X (.BoolOp .Or (a :: b :: rest) pos) (tOr tA tB'):=by
 intro wh pins s σ H Q I h;refine isTrue_or (fY (ha pins s σ H _ I h) λc s1 ⟨H1,I1,q1⟩=>?_);cases c with
 | true=>exact ⟨H1,I1,q1⟩
 | false=>exact hb wh pins s1 σ H1 Q I1 q1
theorem kB (ha:PT X a tA):PT X (.UnaryOp .Not a pos) (RI tA):=by
 intro pins s σ H Q I h;exact isTrue_not (ha pins s σ H (λc H1=>Q (!c) H1) I h)
def OJ (ta tb:TE):TE:=λσ H Q=>ta σ H λx H1=>∃c,x=.bl c/\if c=true then tb σ H1 Q else Q (.bl false) H1
def OD (ta:TE):TE:=λσ H Q=>ta σ H λx H1=>∃c,x=.bl c/\Q (.bl (!c)) H1
theorem Eo (h:PE X a t):PE X (.BoolOp op [a] pos) t:=λpins s σ H Q I hw=>BoolOp_one (h pins s σ H Q I hw)
theorem AK (ha:PE X a ta) (hb:PE X (.BoolOp .And (b :: rest) pos) tb):PE X (.BoolOp .And (a :: b :: rest) pos) (OJ ta tb):=by
 intro pins s σ H Q I h;refine BoolOp_and (fY (ha pins s σ H _ I h) λv s1 ⟨x,H1,I1,r1,q1⟩=>?_);obtain ⟨c,rfl,q1⟩:=q1;cases r1;refine wpAny_truthy_bool ?_;cases c with
 | true=>exact hb pins s1 σ H1 Q I1 q1
 | false=>exact ⟨.bl false,H1,I1,rfl,q1⟩
theorem Qo (ha:PE X a ta):PE X (.UnaryOp .Not a pos) (OD ta):=by
 intro pins s σ H Q I h;refine UnaryOp_ (fY (ha pins s σ H _ I h) λv s1 ⟨x,H1,I1,r1,q1⟩=>?_);obtain ⟨c,rfl,q1⟩:=q1;cases r1;exact not_of (wpAny_truthy_bool ⟨.bl (!c),H1,I1,rfl,q1⟩)
def tIf (t:TT) (ta tb:TE):TE:=λσ H Q=>t σ H λc H1=>if c=true then ta σ H1 Q else tb σ H1 Q
theorem Lv (hc:PT X c tA) (ha:PE X a ta) (hb:PE X b tb):PE X (.IfExp c a b pos) (tIf tA ta tb):=by
 intro pins s σ H Q I h;refine wpAny_IfExp (fY (hc pins s σ H _ I h) λd s1 ⟨H1,I1,q1⟩=>?_);cases d with
 | true=>exact ha pins s1 σ H1 Q I1 q1
 | false=>exact hb pins s1 σ H1 Q I1 q1
end
def bU (K:FG9) (H:Hp) (a:Addr) (xs:List V):Prop :=
 Rd H a (.lst xs) \/
  ∃(o:Obj) (its:Array Value) (n:Nat),K.lookup a=some o/\o.cls=.type "list"/\o.dict=none/\o.data=.seq its n/\its.size<=sizeLine/\cQ xs its.toList
def mP (K:FG9) (H:Hp) (a:Addr) (xs:List V):Prop :=
 Rd H a (.tup xs) \/
  ∃(o:Obj) (its:Array Value) (n:Nat),K.lookup a=some o/\o.cls=.type "tuple"/\o.data=.seq its n/\its.size<=sizeLine/\cQ xs its.toList
def To:Value->Option V
 | .none=>some .non
 | .bool b=>some (.bl b)
 | .int i _=>some (.int i)
 | .str x _=>some (.str x)
 | .bytes b _=>some (.byt b)
 | .float b _=>some (.flt b)
 | .ref a=>some (.ref a)
 | .type n=>some (.ty n)
 | _=>none
theorem RelV.abs (r:RelV x u):To u=some x:=by
 cases x with
 | non=>cases r;rfl
 | bl _=>cases r;rfl
 | int _=>obtain ⟨t,rfl⟩:=r;rfl
 | str _=>obtain ⟨t,rfl⟩:=r;rfl
 | byt _=>obtain ⟨t,rfl⟩:=r;rfl
 | flt _=>obtain ⟨t,rfl⟩:=r;rfl
 | ref _=>cases r;rfl
 | ty _=>cases r;rfl
theorem RelV.inj (r:RelV x u) (q:RelV y u):x=y:=cv (r.abs.symm.trans q.abs)
theorem cQ.inj:∀{xs ys:List V} {us:List Value},cQ xs us->cQ ys us->xs=ys
 | _,_,_,.nil,.nil=>rfl
 | _,_,_,.cons r t,.cons r' t'=>by rw[r.inj r',cQ.inj t t']
section
variable {X:Cx} {pins:List (Addr×Obj)} {σ:St} {H:Hp} {s:Shared} {a:Addr} {xs ys:List V}
theorem bU.of {K:FG9} (h:H a=some (.lst xs)):bU K H a xs:=.inl (.inl h)
theorem mP.of {K:FG9} (h:H a=some (.tup xs)):mP K H a xs:=.inl (.inl h)
theorem Inv.list (I:Inv X pins σ H s) (h:bU X.K H a xs):∃its:List Value,cQ xs its/\PlainL s.heap a its.toArray/\xs.length<=sizeLine:=by
 rcases h with h | ⟨o,its,n,hk,hc,hd,hs,hz,r⟩
 ·obtain ⟨z,its,n,r,e⟩:=h.ok I.hok;exact ⟨its,r,⟨_,n,e,rfl,rfl,rfl⟩,z⟩
 ·refine ⟨its.toList,r,⟨o,n,I.kIn a o hk,hc,hd,by simpa using hs⟩,?_⟩;have e:=r.length;simp only[Array.length_toList] at e
  lia
theorem Inv.tuple (I:Inv X pins σ H s) (h:mP X.K H a xs):∃its:List Value,cQ xs its/\IsTup s.heap a its.toArray/\xs.length<=sizeLine:=by
 rcases h with h | ⟨o,its,n,hk,hc,hs,hz,r⟩
 ·obtain ⟨z,its,r,p⟩:=h.ok I.hok;exact ⟨its,r,p,z⟩
 ·refine ⟨its.toList,r,⟨o,I.kIn a o hk,hc,n,by simpa using hs⟩,?_⟩;have e:=r.length;simp only[Array.length_toList] at e
  lia
theorem Inv.list_inj (I:Inv X pins σ H s) (h:bU X.K H a xs) (h':bU X.K H a ys):xs=ys:=by
 obtain ⟨its,r,⟨o,n,e,_,_,d⟩,_⟩:=I.list h;obtain ⟨its',r',⟨o',n',e',_,_,d'⟩,_⟩:=I.list h';rw[e] at e';cases e';rw[d] at d';injection d' with d1 _
 have:its=its':=by simpa using congrArg Array.toList d1
 subst this;exact r.inj r'
theorem Inv.tuple_inj (I:Inv X pins σ H s) (h:mP X.K H a xs) (h':mP X.K H a ys):xs=ys:=by
 obtain ⟨its,r,⟨o,e,_,n,d⟩,_⟩:=I.tuple h;obtain ⟨its',r',⟨o',e',_,n',d'⟩,_⟩:=I.tuple h';rw[e] at e';cases e';rw[d] at d';injection d' with d1 _
 have:its=its':=by simpa using congrArg Array.toList d1
 subst this;exact r.inj r'
end
abbrev Cx.wish (X:Cx) (E:Value->Shared->Prop):Cx:={ X with xe:=E }
abbrev Cx.nox (X:Cx):Cx:=X.wish λ_ _=>False
theorem Cx.Ok.wish {X:Cx} (ok:X.Ok) (E:Value->Shared->Prop):(X.wish E).Ok :=
 ⟨ok.mod,ok.kind,ok.glob,ok.blt,ok.above,ok.inj,ok.has,ok.cab,ok.hd,ok.frames,ok.stk,ok.exf,ok.bs,ok.bsz,ok.noex,ok.exfs,ok.funs,ok.frf⟩
theorem Cx.Ok.unwish {X:Cx} (ok:(X.wish E).Ok):X.Ok :=
 ⟨ok.mod,ok.kind,ok.glob,ok.blt,ok.above,ok.inj,ok.has,ok.cab,ok.hd,ok.frames,ok.stk,ok.exf,ok.bs,ok.bsz,ok.noex,ok.exfs,ok.funs,ok.frf⟩
section
variable {X:Cx} {pins:List (Addr×Obj)} {σ:St} {H:Hp} {s:Shared} {E:Value->Shared->Prop}
theorem Inv.wish (I:Inv X pins σ H s) (E:Value->Shared->Prop):Inv (X.wish E) pins σ H s:=⟨I.ok.wish E,I.os,I.bare,I.base,I.loc,I.cell,I.free,I.freeC,I.pin,I.hok,I.len⟩
theorem Inv.unwish (I:Inv (X.wish E) pins σ H s):Inv X pins σ H s:=⟨I.ok.unwish,I.os,I.bare,I.base,I.loc,I.cell,I.free,I.freeC,I.pin,I.hok,I.len⟩
theorem SP.unwish (h:SP (X.wish E) pins D f s'):SP X pins D f s':=by
 cases f with
 | next=>obtain ⟨σ',H',I,q⟩:=h;exact ⟨σ',H',I.unwish,q⟩
 | brk=>obtain ⟨σ',H',I,q⟩:=h;exact ⟨σ',H',I.unwish,q⟩
 | cont=>obtain ⟨σ',H',I,q⟩:=h;exact ⟨σ',H',I.unwish,q⟩
 | ret u=>obtain ⟨v,σ',H',I,r,q⟩:=h;exact ⟨v,σ',H',I.unwish,r,q⟩
theorem Io.nox {st:List Stmt} (h:Io X.nox st t):Io X st t:=λpins s σ H D I hw =>
 wpAny_mono (h pins s σ H D (I.wish _) hw) (λ_ _ q=>q.unwish) λ_ _ z=>False.elim z
end
section
variable {X:Cx} {st:Stmt} {rest:List Stmt} {t u:TS} {e:Expr} {te:TE} {pos:Pos}
def OE:TS:=λD σ H=>D.nx σ H
def RC (t u:TS):TS:=λD σ H=>t { D with nx:=u D } σ H
theorem cu:Io X [] OE:=λ_ _ σ H _ I h=>wpAny_execs_nil ⟨σ,H,I,h⟩
theorem ax (h1:PS X st t) (h2:Io X rest u):Io X (st :: rest) (RC t u):=by
 intro pins s σ H D I h;refine wpAny_execs_cons (fY (h1 pins s σ H { D with nx:=u D } I h) λf s1 q=>?_);cases f with
 | next =>
  obtain ⟨σ',H',I',q⟩:=q;exact h2 pins s1 σ' H' D I' q
 | ret v=>exact q
 | brk=>exact q
 | cont=>exact q
theorem aB (h1:PS X st t):Io X [st] t:=by
 intro pins s σ H D I h;refine wpAny_execs_cons (fY (h1 pins s σ H D I h) λf s1 q=>?_);cases f with
 | next=>exact wpAny_execs_nil q
 | ret v=>exact q
 | brk=>exact q
 | cont=>exact q
theorem Inv.quiet {σ:St} (I:Inv X pins σ H s):interactive X.env=false:=by simp [interactive,I.ok.kind]
def OH (te:TE):TS:=λD σ H=>te σ H λ_ H1=>D.nx σ H1
theorem kS (he:PE X e te) (hs:swapsWith e none pos.line X.env=pure false:=by rfl):PS X (.Expr e pos) (OH te):=by
 intro pins s σ H D I h;exact wpAny_Expr_any (fY (he pins s σ H _ I h) λv s1 ⟨x,H1,I1,r1,q1⟩=>⟨σ,H1,I1,q1⟩) I.quiet hs
def RD (te:TE):TS:=λD σ H=>te σ H D.rt
theorem aW (he:PE X e te):PS X (.Return (some e) pos) (RD te):=by
 intro pins s σ H D I h;exact wpAny_Return_some (fY (he pins s σ H _ I h) λv s1 ⟨x,H1,I1,r1,q1⟩=>⟨x,σ,H1,I1,r1,q1⟩)
def RK (c:TT) (t u:TS):TS:=λD σ H=>c σ H λb H1=>if b=true then t D σ H1 else u D σ H1
theorem dh (hc:PT X c tc) (ha:Io X a t) (hb:Io X b u):PS X (.If c a b pos) (RK tc t u):=by
 intro pins s σ H D I h;refine wpAny_If (fY (hc pins s σ H _ I h) λd s1 ⟨H1,I1,q1⟩=>?_);cases d with
 | true=>exact ha pins s1 σ H1 D I1 q1
 | false=>exact hb pins s1 σ H1 D I1 q1
end
abbrev TG:=V->St->Hp->(St->Hp->Prop)->Prop
abbrev ML:=List V->St->Hp->(St->Hp->Prop)->Prop
def PG (X:Cx) (target:Expr) (t:TG):Prop :=
 ∀(pins:List (Addr×Obj)) (s:Shared) (σ:St) (H:Hp) (v:V) (u:Value) (Q:St->Hp->Prop),Inv X pins σ H s->RelV v u->t v σ H Q →
  wpAny (model X.prog X.w) X.A (assign target X.env u) (λ_ s'=>∃σ' H',Inv X pins σ' H' s'/\Q σ' H') X.xe s
def SJ (X:Cx) (ts:List Expr) (t:ML):Prop :=
 ∀(pins:List (Addr×Obj)) (s:Shared) (σ:St) (H:Hp) (vs:List V) (us:List Value) (Q:St->Hp->Prop),Inv X pins σ H s->cQ vs us->t vs σ H Q →
  wpAny (model X.prog X.w) X.A (assignInOrder ((assignEach ts X.env).map (·.2)) us) (λ_ s'=>∃σ' H',Inv X pins σ' H' s'/\Q σ' H') X.xe s
abbrev Ik:=V->V->V->Hp->(Hp->Prop)->Prop
def QW (X:Cx) (t:Ik):Prop :=
 ∀(pins:List (Addr×Obj)) (s:Shared) (σ:St) (H:Hp) (o i v:V) (ov iv u:Value) (Q:Hp->Prop),Inv X pins σ H s->RelV o ov->RelV i iv->RelV v u->t o i v H Q →
  wpAny (model X.prog X.w) X.A (setItem ov iv u) (λ_ s'=>∃H',Inv X pins σ H' s'/\Q H') X.xe s
abbrev SI:=V->V->Hp->VK->Prop
def PIp (X:Cx) (op:Operator) (t:SI):Prop :=
 ∀(pins:List (Addr×Obj)) (s:Shared) (σ:St) (H:Hp) (x y:V) (v u:Value) (Q:VK),Inv X pins σ H s->RelV x v->RelV y u->t x y H Q →
  wpAny (model X.prog X.w) X.A (inplaceOp op v u) (EP X pins σ Q) X.xe s
section
variable {X:Cx} {pos:Pos}
def Jo (i:Nat):TG:=λv σ H Q=>Q (σ.set i (some v)) H
theorem aN {i:Nat} {x:Str} (hN:X.N.Nodup) (hi:X.N[i]?=some x:=by exact rfl) (hx:Loc X.env.scope x:=by exact Or.inl rfl) (hf:X.fn x=true\/X.env.scope.names.lookup x=some .local:=by first | exact .inl rfl | exact .inr rfl | assumption):PG X (.Name x pos) (Jo i):=by
 intro pins s σ H v u Q I r h;exact wpAny_assign_Name (vh I hN hi hx r (λs' I'=>⟨_,H,I',h⟩) hf)
def Sy:ML:=λvs σ H Q=>vs=[]/\Q σ H
def O1 (t:TG) (u:ML):ML:=λvs σ H Q=>∃v r,vs=v :: r/\t v σ H λσ' H'=>u r σ' H' Q
theorem jU:SJ X [] Sy:=by
 intro pins s σ H vs us Q I r h;obtain ⟨e,h⟩:=h;subst e;cases r;exact assignInOrder_nil ⟨σ,H,I,h⟩
theorem c8 {e:Expr} {es:List Expr} {t:TG} {u:ML} (h1:PG X e t) (h2:SJ X es u)
  (hs:(assignEach (e :: es) X.env).map (·.2)=assign e X.env :: (assignEach es X.env).map (·.2):=by rfl):SJ X (e :: es) (O1 t u):=by
 intro pins s σ H vs us Q I r h;obtain ⟨v,vr,e1,h⟩:=h;subst e1;cases r with
 | cons r rr =>
  rw[hs];refine assignInOrder_cons (fY (h1 pins s σ H _ _ _ I r h) λ_ s1 ⟨σ1,H1,I1,q1⟩=>?_);exact h2 pins s1 σ1 H1 _ _ Q I1 rr q1
def QL (K:FG9) (n:Nat) (t:ML):TG:=λv σ H Q=>∃a xs,v=.ref a/\mP K H a xs/\xs.length=n/\t xs σ H Q
theorem yd {es:List Expr} {k:Nat} {t:ML} {n:Nat} (hc:X.calm=true) (h:SJ X es t)
  (hn:(assignEach es X.env).length=n:=by rfl) (hst:(assignEach es X.env).findIdx? (·.1)=none:=by rfl):PG X (.Tuple es k pos) (QL X.K n t):=by
 intro pins s σ H v u Q I r hw;obtain ⟨a,xs,e1,hq,hl,hw⟩:=hw;subst e1;cases r;obtain ⟨its,rv,ht,hz⟩:=I.tuple hq;refine assign_Tuple_tuple (I.ok.hd hc) ht (by simp [hn,<- hl,rv.length]) hst λh' hx=>?_
 have I1:Inv X pins σ H { s with heap:=h' }:=I.kept (t':=s.toks) λb o e=>hx b o (cU (Heap.lt_size e)) e
 exact h pins _ σ H xs _ Q I1 (by simpa using rv) hw
def Sx (to ti:TE) (t:Ik):TG:=λv σ H Q=>to σ H λo H1=>ti σ H1 λi H2=>t o i v H2 λH3=>Q σ H3
theorem gQ {o i : Expr} {to ti : TE} {t : Ik} (ho : PE X o to) (hi : PE X i ti) (hs : QW X t)
    (ha : ∀ v, assign (.Subscript o i pos) X.env v = (do
      let ov <- holding [v] (eval o X.env)
      let iv <- holding [v, ov] (eval i X.env)
      standAt pos
      holding [v, ov, iv] (setItem ov iv v)
      release [v, ov, iv] []) := by intro _; rfl) : PG X (.Subscript o i pos) (Sx to ti t) := by
  intro pins s σ H v u Q I r h;rw [ha];refine wpAny_bind (wpAny_holding (fY (ho pins s σ H _ I h) λov s1 ⟨x, H1, I1, r1, q1⟩ => ?_));refine wpAny_bind (wpAny_holding (fY (hi pins s1 σ H1 _ I1 q1) λiv s2 ⟨y, H2, I2, r2, q2⟩ => ?_));refine wpAny_bind (wpAny_standAt (wpAny_bind (wpAny_holding (fY (hs pins s2 σ H2 x y v ov iv u _ I2 r1 r2 r q2) λ_ s3 ⟨H3, I3, q3⟩ => ?_))));exact wpAny_release ⟨σ, H3, I3, q3⟩
def MW (te:TE) (g:TG):TS:=λD σ H=>te σ H λx H1=>g x σ H1 D.nx
theorem fG {tg e:Expr} {te:TE} {g:TG} (he:PE X e te) (hg:PG X tg g) (hs:swapsWithSole [tg] e pos.line X.env=pure false:=by rfl) (hw:swappedStores [tg] e X.env=pure none:=by rfl)
  (h1:(assignEach [tg] X.env).map (·.2)=[assign tg X.env]:=by rfl):PS X (.Assign [tg] e pos) (MW te g):=by
 intro pins s σ H D I h;refine wpAny_Assign_stores (fY (he pins s σ H _ I h) λv s1 ⟨x,H1,I1,r1,q1⟩=>?_) hs hw;rw[h1];exact fY (hg pins s1 σ H1 x v _ I1 r1 q1) λ_ s2 q=>q
theorem aZ {i:Nat} {x:Str} {e:Expr} {te:TE} {pos':Pos} (hN:X.N.Nodup) (hi:X.N[i]?=some x) (hx:Loc X.env.scope x) (he:PE X e te) (hs:swapsWith e (some (.Name x pos')) pos.line X.env=pure false:=by rfl) (hf:X.fn x=true\/X.env.scope.names.lookup x=some .local:=by first | exact .inl rfl | exact .inr rfl | assumption) :
  PS X (.Assign [.Name x pos'] e pos) (MW te (Jo i)):=by
 intro pins s σ H D I h;refine wpAny_Assign_Name (fY (he pins s σ H _ I h) λv s1 ⟨y,H1,I1,r1,q1⟩=>?_) hs;exact vh I1 hN hi hx r1 (λs2 I2=>⟨_,H1,I2,q1⟩) hf
def RE (i j:Nat) (ta:TA):TS:=λD σ H=>ta σ H λvs H1=>∃v w,vs=[v,w]/\D.nx ((σ.set i (some v)).set j (some w)) H1
theorem Lr {i j:Nat} {x y:Str} {a b:Expr} {ta:TA} {px py pt:Pos} {kt k2 pt2} (hc:X.calm=true) (hN:X.N.Nodup) (hi:X.N[i]?=some x) (hj:X.N[j]?=some y) (hij:i≠j)
  (hx:X.env.scope.names.lookup x=some .local) (hy:X.env.scope.names.lookup y=some .local) (ha:PA X [a,b] ta)
  (hw:swappedStores [.Tuple [.Name x px,.Name y py] kt pt] (.Tuple [a,b] k2 pt2) X.env=pure (some [x,y]))
  (hs:swapsWithSole [.Tuple [.Name x px,.Name y py] kt pt] (.Tuple [a,b] k2 pt2) pos.line X.env=pure false:=by rfl) :
  PS X (.Assign [.Tuple [.Name x px,.Name y py] kt pt] (.Tuple [a,b] k2 pt2) pos) (RE i j ta):=by
 intro pins s σ H D I h;rw[exec_Assign_arm];refine wpAny_bind (wpAny_standAt ?_);rw[hs];refine wpAny_bind (wpAny_pure ?_);rw[if_neg (by decide)];refine wpAny_bind (Tuple_ (fY (ha _ pins s σ H _ I h) λus s1 ⟨vs,H1,I1,r1,q1⟩=>?_));obtain ⟨v,w,e1,q1⟩:=q1;subst e1
 obtain ⟨u1,u2,rfl,rv,rw'⟩:∃u1 u2,us=[u1,u2]/\RelV v u1/\RelV w u2:=by
  cases r1 with
  | cons p q =>
   cases q with
   | cons p' q' =>
    cases q';exact ⟨_,_,rfl,p,p'⟩
 refine wpAny_newObj_type ?_ (by show 2<=sizeLine;decide);have I2:Inv X pins σ H1 { s1 with heap:=s1.heap.push { cls:=.type "tuple",data:=.seq [u1,u2].toArray } }:=I1.kept (t':=s1.toks) λb o e=>Heap.get?_push_of_some _ e
 rw[hw];refine wpAny_bind (wpAny_pure ?_);show wpAny (model X.prog X.w) X.A (do rule "assign.swapped-stores";let items <- unpackItems (.ref s1.heap.objs.size) 2 none;assignInOrder [λv=>bindName X.env y v,λv=>bindName X.env x v] items.reverse;pure Flow.next) _ _ _
 refine wpAny_bind (wpAny_rule (wpAny_bind (unpackItems_tuple (items:=#[u1,u2]) (I.ok.hd hc) (IsTup.new s1.heap _) λh' hx'=>?_)));have I3:=I2.kept (h':=h') (t':=s1.toks) λb o e=>hx' b o (cU (Heap.lt_size e)) e
 show wpAny _ _ (assignInOrder [λv=>bindName X.env y v,λv=>bindName X.env x v] [u2,u1] >>= λ_=>pure Flow.next) _ _ _
 refine wpAny_bind (assignInOrder_cons (wpAny_bindName (vh I3 hN hj (.inl hy) rw' (λs2 I4=>?_) (.inr hy))));refine assignInOrder_cons (wpAny_bindName (vh I4 hN hi (.inl hx) rv (λs3 I5=>assignInOrder_nil (wpAny_pure ?_)) (.inr hx)));rw[List.set_comm _ _ (Ne.symm hij)] at I5;exact ⟨_,H1,I5,q1⟩
def OI (to ti te:TE) (tget:V->V->Hp->VK->Prop) (tip:SI) (tset:Ik):TS:=λD σ H=>to σ H λo H1=>ti σ H1 λi H2=>tget o i H2 λx H3=>te σ H3 λy H4=>tip x y H4 λz H5=>tset o i z H5 λH6=>D.nx σ H6
def SM (X:Cx) (t:V->V->Hp->VK->Prop):Prop :=
 ∀(pins:List (Addr×Obj)) (s:Shared) (σ:St) (H:Hp) (o i:V) (ov iv:Value) (Q:VK),Inv X pins σ H s->RelV o ov->RelV i iv->t o i H Q →
  wpAny (model X.prog X.w) X.A (getItem ov iv) (EP X pins σ Q) X.xe s
theorem NO {o i e:Expr} {to ti te:TE} {tget:V->V->Hp->VK->Prop} {tip:SI} {tset:Ik} {op:Operator} {tpos:Pos} (ho:PE X o to) (hi:PE X i ti) (hg:SM X tget) (he:PE X e te) (hp:PIp X op tip) (hs:QW X tset)
  (ha:∀ov iv new,augStore i ov iv new=(do holding [new,ov,iv] (setItem ov iv new);release [new,ov,iv] [];pure .next):=by intros;rfl):PS X (.AugAssign (.Subscript o i tpos) op e pos) (OI to ti te tget tip tset):=by
 intro pins s σ H D I h;refine wpAny_AugAssign_SubscriptAny (fY (ho pins s σ H _ I h) λov s1 ⟨x1,H1,I1,r1,q1⟩=>?_) ha;refine fY (hi pins s1 σ H1 _ I1 q1) λiv s2 ⟨x2,H2,I2,r2,q2⟩=>?_
 refine fY (hg pins s2 σ H2 x1 x2 ov iv _ I2 r1 r2 q2) λold s3 ⟨x3,H3,I3,r3,q3⟩=>?_
 refine fY (he pins s3 σ H3 _ I3 q3) λv s4 ⟨x4,H4,I4,r4,q4⟩=>?_
 refine fY (hp pins s4 σ H4 x3 x4 old v _ I4 r3 r4 q4) λnew s5 ⟨x5,H5,I5,r5,q5⟩=>?_
 exact fY (hs pins s5 σ H5 x1 x2 x5 ov iv new _ I5 r1 r2 r5 q5) λ_ s6 ⟨H6,I6,q6⟩=>⟨σ,H6,I6,q6⟩
def ipI (f:Int->Int->Int):SI:=λx y H Q=>∃i j,x=.int i/\y=.int j/\Q (.int (f i j)) H
theorem QF:PIp X .Add (ipI λi j=>i+j):=by
 intro pins s σ H x y v u Q I r1 r2 h;obtain ⟨i,j,e1,e2,q⟩:=h;subst e1;subst e2;obtain ⟨t,rfl⟩:=r1;obtain ⟨t',rfl⟩:=r2;exact iadd_int ⟨.int _,H,I.tok _,⟨_,rfl⟩,q⟩
end
section
variable {X:Cx} {pos:Pos}
def KR (c:TT) (tb:TS):TS:=λD σ H=>∃W:Nat->St->Hp->Prop,(∃m,W m σ H)/\∀m σ H,W m σ H →
 c σ H λb H1=>if b=true then ∃N:St->Hp->Prop,(∀σ' H',N σ' H'->∃m',m' < m/\W m' σ' H')/\tb { D with nx:=N,ct:=N,bk:=D.nx } σ H1 else D.nx σ H1
theorem AB (hp:PassesOwn (model X.prog X.w) X.A X.env X.xe) (hc:PT X c tc) (hb:Io X body tb):PS X (.While c body [] pos) (KR tc tb):=by
 intro pins s σ H D I h;obtain ⟨W,⟨m0,w0⟩,turn⟩:=h;refine wpAny_While (codeAny_whileLoop (λn s'=>∃σ' H',Inv X pins σ' H' s'/\W n σ' H') ?_ m0 ⟨σ,H,I,w0⟩);rintro n s1 ⟨σ1,H1,I1,w1⟩;refine wpAny_passesOwn hp (fY (hc pins s1 σ1 H1 _ I1 (turn n σ1 H1 w1)) λb s2 ⟨H2,I2,q2⟩=>?_);cases b with
 | true =>
  obtain ⟨N,hN,q2⟩:=q2;rw[if_pos rfl];refine wpAny_passesOwn hp (fY (hb pins s2 σ1 H2 _ I2 q2) λf s3 q3=>?_);cases f with
  | next =>
   obtain ⟨σ3,H3,I3,n3⟩:=q3;obtain ⟨m',hm,w3⟩:=hN σ3 H3 n3;exact ⟨m',hm,σ3,H3,I3,w3⟩
  | cont =>
   obtain ⟨σ3,H3,I3,n3⟩:=q3;obtain ⟨m',hm,w3⟩:=hN σ3 H3 n3;exact ⟨m',hm,σ3,H3,I3,w3⟩
  | brk=>exact q3
  | ret v=>exact q3
 | false =>
  rw[if_neg bu];exact wpAny_execs_nil ⟨σ1,H2,I2,q2⟩
end
structure It where
 go:Nat->Hp->Prop
 yld:Nat->Hp->V->Hp->Prop
 stop:Nat->Hp->Prop
def jQ (X:Cx) (pins:List (Addr×Obj)) (H:Hp) (b:Addr):Prop :=
 H b=none/\b≠X.env.locals/\b∉X.fs/\(b∈X.ex\/X.s₀.heap.objs.size<=b)/\(∀x c,X.env.cells.lookup x=some c->c≠b)/\∀p∈X.pn++pins,p.1≠b
theorem Inv.fpOk {σ:St} {b:Addr} (I:Inv X pins σ H s) (hb:s.heap.objs.size<=b) (hn:H' b=none):jQ X pins H' b:=by
 refine ⟨hn,JN (bJ I.lt hb),I.nofs hb,.inr (ai I.sz hb),λx c e z=>?_,λp hp z=>?_⟩
 ·obtain ⟨v,q⟩:=I.cell x c e;exact absurd (bJ q.lt (by rw[z];exact hb)) (dW _)
 ·exact absurd (bJ (Heap.lt_size (I.pin p hp).1) (by rw[z];exact hb)) (dW _)
structure Turn (P:Program) (w:World) (K:FG9) (tg:Expr) (J:It) (fp:List Addr) (it:Addr) (tn:Nat->Heap->Prop):Prop where
 mem:it∈fp
 obj:∀i h,tn i h->∀b∈fp,∃o,h.get? b=some o/\∀v,o.data≠.cell v
 keep:∀i h h',tn i h->(∀b∈fp,∀o,h.get? b=some o->h'.get? b=some o)->tn i h'
 item:∀(X:Cx),X.prog=P->X.w=w->X.K=K->X.calm=true->∀(i:Nat) (pins:List (Addr×Obj)) (s:Shared) (σ:St) (H:Hp) (E:Value->Shared->Prop),Inv X pins σ H s->(∀b∈fp,jQ X pins H b)->tn i s.heap->J.go i H →
  wpAny (model P w) X.A (pyNext (.ref it)) (λr s1=>∃u,r=some u /\
   wpAny (model P w) X.A (letOwnedTupleGo tg (.ref it) u) (λ_ s2=>∃x H',Inv X pins σ H' s2/\RelV x u/\J.yld i H x H'/\tn (i+1) s2.heap/\∀b∈fp,H' b=none) E s1) E s
 done:∀(X:Cx),X.prog=P->X.w=w->X.K=K->X.calm=true->∀(i:Nat) (pins:List (Addr×Obj)) (s:Shared) (σ:St) (H:Hp) (E:Value->Shared->Prop),Inv X pins σ H s->(∀b∈fp,jQ X pins H b)->tn i s.heap->J.stop i H →
  wpAny (model P w) X.A (pyNext (.ref it)) (λr s1=>r=none/\Inv X pins σ H s1) E s
 self:∀(A:Around) (i:Nat) (s:Shared) (Q:Value->Shared->Prop) (E:Value->Shared->Prop),tn i s.heap->Q (.ref it) s->wpAny (model P w) A (pyIter (.ref it)) Q E s
abbrev TI:=St->Hp->(It->Hp->Prop)->Prop
def PIE (X:Cx) (pins:List (Addr×Obj)) (σ:St) (tg:Expr) (R:It->Hp->Prop) (itv:Value) (s2:Shared):Prop :=
 ∃(it:Addr) (fp:List Addr) (tn:Nat->Heap->Prop) (J:It) (H':Hp),itv=.ref it/\Inv X pins σ H' s2/\Turn X.prog X.w X.K tg J fp it tn/\tn 0 s2.heap/\(∀b∈fp,jQ X pins H' b)/\R J H'
def PI (X:Cx) (tg iter:Expr) (wi:TI):Prop :=
 ∀(pins:List (Addr×Obj)) (s:Shared) (σ:St) (H:Hp) (R:It->Hp->Prop),Inv X pins σ H s->wi σ H R →
  wpAny (model X.prog X.w) X.A (eval iter X.env) (λv s1=>wpAny (model X.prog X.w) X.A (pyIter v) (PIE X pins σ tg R) X.xe s1) X.xe s
theorem Mc (ho:s.heap.get? it=some o) (hc:o.cls=.type n) (hd:o.data=.fields vs)
  (hn:["enumerate","zip","dict_itemiterator","dict_reverseitemiterator","odict_iterator","itertools.zip_longest","itertools.pairwise"].contains n=false) (hQ:Q () s):wpAny M A (letOwnedTupleGo tg (.ref it) u) Q E s:=by
 unfold letOwnedTupleGo
 cases tg <;> first
  | exact wpAny_pure hQ
  | (cases u <;> first | exact wpAny_pure hQ | (refine wpAny_bind (wpAny_load ho ?_);rw[hc,hd];show wpAny M A (if (["enumerate","zip","dict_itemiterator","dict_reverseitemiterator","odict_iterator","itertools.zip_longest","itertools.pairwise"].contains n && vs[0]? == some (rawInt _))=true then _ else _) Q E s;rw[if_neg (by intro h;rw[hn,Bool.false_and] at h;cases h)];exact wpAny_pure hQ))
def Ow (K:FG9) (a:Addr):It :=
 ⟨λi H=>∃xs x,bU K H a xs/\xs[i]?=some x,λi H x H'=>H'=H/\∀xs,bU K H a xs->xs[i]?=some x,λi H=>∃xs,bU K H a xs/\xs.length<=i⟩
def Ri (K:FG9) (a:Addr):It :=
 ⟨λi H=>∃xs x,mP K H a xs/\xs[i]?=some x,λi H x H'=>H'=H/\∀xs,mP K H a xs->xs[i]?=some x,λi H=>∃xs,mP K H a xs/\xs.length<=i⟩
def GV (lo:Int) (n:Nat):It:=⟨λi _=>i < n,λi H x H'=>H'=H/\x=.int (lo+i),λi _=>n<=i⟩
theorem JS {P:Program} {w:World} {K:FG9} {tg:Expr} (a it:Addr):Turn P w K tg (Ow K a) [it] it (λi h=>h.IsListIter it a i) where
 mem:=by simp
 obj:=λi h st b hb=>by
  have e:b=it:=by simpa using hb
  subst e;obtain ⟨o,e,c,d⟩:=st;exact ⟨o,e,λv z=>by rw[d] at z;cases z⟩
 keep:=λi h h' st k=>st.at λo e=>k it (by simp) o e
 item:=by
  intro X hP hw hK hc i pins s σ H E I hf st hg;subst hP hw hK;obtain ⟨xs,x,hq,hx⟩:=hg;obtain ⟨its,rv,p,hz⟩:=I.list hq;obtain ⟨u,hu,ru⟩:=rv.get hx;obtain ⟨f0,f1,f2,f3,f4,f5⟩:=hf it (by simp);refine wpAny_pyNext_list_item st p.isList (x:=u) (by simpa using hu) λh' st' sb=>?_
  have I1:Inv X pins σ H { s with heap:=h' }:=I.turned (t':=s.toks) (λb o hb e=>(sb.2 b hb).trans e) f0 f1 f3 f4 f5;obtain ⟨o,e,c,d⟩:=id st';exact ⟨u,rfl,Mc (s:={ s with heap:=h' }) e c d (by decide) ⟨x,H,I1,ru,⟨rfl,λys hy=>by rw[I.list_inj hy hq];exact hx⟩,st',λb hb=>(hf b hb).1⟩⟩
 done:=by
  intro X hP hw hK hc i pins s σ H E I hf st hg;subst hP hw hK;obtain ⟨xs,hq,hx⟩:=hg;obtain ⟨its,rv,p,hz⟩:=I.list hq;obtain ⟨f0,f1,f2,f3,f4,f5⟩:=hf it (by simp);have hl:=rv.length;exact wpAny_pyNext_list_end (I.ok.hd hc) st p.isList (by simp;lia) λh' eb=>⟨rfl,I.turned (t':=s.toks) (λb o hb e=>eb b o hb e) f0 f1 f3 f4 f5⟩
 self:=λ_ _ _ _ _ st h=>wpAny_pyIter_listiter st h
theorem Hr {P:Program} {w:World} {K:FG9} {tg:Expr} (a it:Addr):Turn P w K tg (Ri K a) [it] it (λi h=>h.IsTupleIter it a i) where
 mem:=by simp
 obj:=λi h st b hb=>by
  have e:b=it:=by simpa using hb
  subst e;obtain ⟨o,e,c,d⟩:=st;exact ⟨o,e,λv z=>by rw[d] at z;cases z⟩
 keep:=λi h h' st k=>st.at λo e=>k it (by simp) o e
 item:=by
  intro X hP hw hK hc i pins s σ H E I hf st hg;subst hP hw hK;obtain ⟨xs,x,hq,hx⟩:=hg;obtain ⟨its,rv,p,hz⟩:=I.tuple hq;obtain ⟨u,hu,ru⟩:=rv.get hx;obtain ⟨f0,f1,f2,f3,f4,f5⟩:=hf it (by simp);refine wpAny_pyNext_tuple_item st (show s.heap.IsTuple a its.toArray from p) (x:=u) (by simpa using hu) λh' st' sb=>?_
  have I1:Inv X pins σ H { s with heap:=h' }:=I.turned (t':=s.toks) (λb o hb e=>(sb.2 b hb).trans e) f0 f1 f3 f4 f5;obtain ⟨o,e,c,d⟩:=id st';exact ⟨u,rfl,Mc (s:={ s with heap:=h' }) e c d (by decide) ⟨x,H,I1,ru,⟨rfl,λys hy=>by rw[I.tuple_inj hy hq];exact hx⟩,st',λb hb=>(hf b hb).1⟩⟩
 done:=by
  intro X hP hw hK hc i pins s σ H E I hf st hg;subst hP hw hK;obtain ⟨xs,hq,hx⟩:=hg;obtain ⟨its,rv,p,hz⟩:=I.tuple hq;obtain ⟨f0,f1,f2,f3,f4,f5⟩:=hf it (by simp);have hl:=rv.length;exact wpAny_pyNext_tuple_end (I.ok.hd hc) st (show s.heap.IsTuple a its.toArray from p) (by simp;lia) λh' eb=>⟨rfl,I.turned (t':=s.toks) (λb o hb e=>eb b o hb e) f0 f1 f3 f4 f5⟩
 self:=λ_ _ _ _ _ st h=>wpAny_pyIter_tupleiter st h
theorem Ht {P:Program} {w:World} {K:FG9} {tg:Expr} (it:Addr) (lo:Int) (n:Nat):Turn P w K tg (GV lo n) [it] it (λi h=>IsRangeIter h it (lo+(i:Nat)*1) ((n:Int) - (i:Nat)) 1) where
 mem:=by simp
 obj:=λi h st b hb=>by
  have e:b=it:=by simpa using hb
  subst e
  exact ⟨_,st,λv z=>by
   have z':Data.fields _=Data.cell v:=z;cases z'⟩
 keep:=λi h h' st k=>k it (by simp) _ st
 item:=by
  intro X hP hw hK hc i pins s σ H E I hf st hg;subst hP hw hK;obtain ⟨f0,f1,f2,f3,f4,f5⟩:=hf it (by simp);have W:=Walks.range (prog:=X.prog) (w:=X.w) (I.ok.hd hc) it lo 1 n;refine W.item i s _ _ hg st λv h' tk hv st' kk=>?_
  obtain ⟨t,rfl⟩:=hv;have I1:Inv X pins σ H { s with heap:=h',toks:=tk }:=I.turned (λb o hb e=>kk b o (by simpa using hb) e) f0 f1 f3 f4 f5;refine ⟨_,rfl,Mc (s:={ s with heap:=h',toks:=tk }) (n:="range_iterator") st' rfl rfl (by decide) ⟨.int (lo+i),H,I1,⟨t,?_⟩,⟨rfl,rfl⟩,st',λb hb=>(hf b hb).1⟩⟩;rw[Int.mul_one]
 done:=by
  intro X hP hw hK hc i pins s σ H E I hf st hg;subst hP hw hK;obtain ⟨f0,f1,f2,f3,f4,f5⟩:=hf it (by simp);exact wpAny_pyNext_range_end (I.ok.hd hc) st (by have:n<=i:=hg;lia) λh' eb=>⟨rfl,I.turned (t':=s.toks) (λb o hb e=>eb b o hb e) f0 f1 f3 f4 f5⟩
 self:=λ_ _ _ _ _ st h=>wpAny_pyIter_rangeiter st h
section
variable {X:Cx} {tg:Expr}
def L9 (K:FG9) (tl:TE):TI:=λσ H R=>tl σ H λx H1=>∃a,x=.ref a/\(∃xs,bU K H1 a xs)/\R (Ow K a) H1
def Sv (K:FG9) (tl:TE):TI:=λσ H R=>tl σ H λx H1=>∃a,x=.ref a/\(∃xs,mP K H1 a xs)/\R (Ri K a) H1
theorem cp (hl:PE X l tl):PI X tg l (L9 X.K tl):=by
 intro pins s σ H R I h;refine fY (hl pins s σ H _ I h) λv s1 ⟨x,H1,I1,r1,q1⟩=>?_
 obtain ⟨a,e,⟨xs,hq⟩,q⟩:=q1;subst e;cases r1;obtain ⟨its,rv,p,hz⟩:=I1.list hq;refine wpAny_pyIter_list p.isList ?_;refine ⟨s1.heap.objs.size,[s1.heap.objs.size],_,_,H1,rfl,I1.kept (t':=s1.toks) λb o e=>Heap.get?_push_of_some _ e,JS a _,⟨_,Heap.get?_push_size _ rfl,rfl,rfl⟩,λb hb=>?_,q⟩;have e:b=s1.heap.objs.size:=by simpa using hb
 subst e;exact I1.fpOk (aj _) (I1.hok.fresh (aj _))
theorem Qm (hl:PE X l tl):PI X tg l (Sv X.K tl):=by
 intro pins s σ H R I h;refine fY (hl pins s σ H _ I h) λv s1 ⟨x,H1,I1,r1,q1⟩=>?_
 obtain ⟨a,e,⟨xs,hq⟩,q⟩:=q1;subst e;cases r1;obtain ⟨its,rv,p,hz⟩:=I1.tuple hq;refine wpAny_pyIter_tuple (show s1.heap.IsTuple a its.toArray from p) ?_;refine ⟨s1.heap.objs.size,[s1.heap.objs.size],_,_,H1,rfl,I1.kept (t':=s1.toks) λb o e=>Heap.get?_push_of_some _ e,Hr a _,⟨_,Heap.get?_push_size _ rfl,rfl,rfl⟩,λb hb=>?_,q⟩;have e:b=s1.heap.objs.size:=by simpa using hb
 subst e;exact I1.fpOk (aj _) (I1.hok.fresh (aj _))
theorem FW {σ:St} {lo hi:Int} (I:Inv X pins σ H s) (h1:-(2^62)<=lo) (h2:lo < 2^62) (h3:-(2^62)<=hi) (h4:hi < 2^62)
  (q:R (GV lo (hi - lo).toNat) H):wpAny (model X.prog X.w) X.A (pyIter (.ref s.heap.objs.size)) (PIE X pins σ tg R) E { s with heap:=s.heap.push { cls:=.type "range",data:=.fields #[.int lo t,.int hi u,.int 1 v] },toks:=tk }:=by
 refine wpAny_pyIter_range (IsRange.new ..) (small_one h1 h2 h3 h4) ?_;have I1:Inv X pins σ H { s with heap:=s.heap.push { cls:=.type "range",data:=.fields #[.int lo t,.int hi u,.int 1 v] },toks:=tk }:=I.kept λb o e=>Heap.get?_push_of_some _ e
 refine ⟨(s.heap.push { cls:=.type "range",data:=.fields #[.int lo t,.int hi u,.int 1 v] }).objs.size,[(s.heap.push { cls:=.type "range",data:=.fields #[.int lo t,.int hi u,.int 1 v] }).objs.size],_,_,H,rfl,
  I1.kept (t':=tk) λb o e=>Heap.get?_push_of_some _ e,Ht _ lo (hi - lo).toNat,?_,λb hb=>?_,q⟩
 ·have e1:lo+((0:Nat):Int)*1=lo:=by simp
  have e2:(((hi - lo).toNat:Nat):Int) - ((0:Nat):Int)=Builtin.Range.rangeSize lo hi 1:=by rw[rangeSize_one];split <;> lia
  show IsRangeIter _ _ (lo+((0:Nat):Int)*1) ((((hi - lo).toNat:Nat):Int) - ((0:Nat):Int)) 1
  rw[e1,e2];exact Heap.get?_push_size _ rfl
 ·have e:b=(s.heap.push { cls:=.type "range",data:=.fields #[.int lo t,.int hi u,.int 1 v] }).objs.size:=by simpa using hb
  subst e;exact I1.fpOk (aj _) (I1.hok.fresh (aj _))
def OY (ta:TA):TI:=λσ H R=>ta σ H λvs H1=>∃j:Int,vs=[.int j]/\-(2^62)<=j/\j < 2^62/\R (GV 0 j.toNat) H1
def OX (ta:TA):TI:=λσ H R=>ta σ H λvs H1=>∃i j:Int,vs=[.int i,.int j]/\(-(2^62)<=i/\i < 2^62/\-(2^62)<=j/\j < 2^62)/\R (GV i (j - i).toNat) H1
theorem cy {a:Expr} {ta:TA} {p pos:Pos} (hg:Gl X "range") (hm:X.mg "range"=none) (ha:PA X [a] ta) (hs:starEach [a] X.env=[(false,eval a X.env)]:=by rfl):PI X tg (.Call (.Name "range" p) [a] [] pos) (OY ta):=by
 intro pins s σ H R I h;refine Call_ (jo I hg hm boot_range (PyProof.Rows.callWith_type1 (fY (ha pos pins s σ H _ I h) λus s1 ⟨vs,H1,I1,r1,q1⟩=>?_) hs rfl));obtain ⟨j,e,q1,q2,q⟩:=q1;subst e;cases r1 with
 | cons r rr =>
  cases rr;obtain ⟨t,rfl⟩:=r;exact call_range_1 (FW I1 (by lia) (by lia) q1 q2 (by simpa using q))
theorem Kb {a b:Expr} {ta:TA} {p pos:Pos} (hg:Gl X "range") (hm:X.mg "range"=none) (ha:PA X [a,b] ta) (hs:starEach [a,b] X.env=[(false,eval a X.env),(false,eval b X.env)]:=by rfl) (hs2:starEach [b] X.env=[(false,eval b X.env)]:=by rfl) :
  PI X tg (.Call (.Name "range" p) [a,b] [] pos) (OX ta):=by
 intro pins s σ H R I h;refine Call_ (jo I hg hm boot_range (PyProof.Rows.callWith_type1 (fY (ha pos pins s σ H _ I h) λus s1 ⟨vs,H1,I1,r1,q1⟩=>?_) (by rw[hs,hs2]) (by rw[hs2];rfl)));obtain ⟨i,j,e,⟨q1,q2,q3,q4⟩,q⟩:=q1;subst e;cases r1 with
 | cons r rr =>
  cases rr with
  | cons r' rr =>
   cases rr;obtain ⟨t,rfl⟩:=r;obtain ⟨t',rfl⟩:=r';exact call_range_2 (FW I1 q1 q2 q3 q4 q)
def RM (wi:TI) (g:TG) (tb:TS):TS:=λD σ H=>wi σ H λJ H1=>∃W:Nat->Nat->St->Hp->Prop,(∃m,W 0 m σ H1)/\∀i m σ H,W i m σ H →
 (J.stop i H/\D.nx σ H)\/(J.go i H/\∃N:St->Hp->Prop,(∀σ' H',N σ' H'->∃m',m' < m/\W (i+1) m' σ' H')/\∀x H',J.yld i H x H'->g x σ H' λσ2 H2=>tb { D with nx:=N,ct:=N,bk:=D.nx } σ2 H2)
def AG (fp:List Addr) (h:Heap):List (Addr×Obj):=fp.filterMap λb=>(h.get? b).map λo=>(b,o)
theorem p7 (hb:b∈fp) (e:h.get? b=some o):(b,o)∈AG fp h:=List.mem_filterMap.mpr ⟨b,hb,by rw[e];rfl⟩
theorem Ke (hp:p∈AG fp h):p.1∈fp/\h.get? p.1=some p.2:=by
 obtain ⟨b,hb,e⟩:=List.mem_filterMap.mp hp;cases q:h.get? b with
 | none=>rw[q] at e;cases e
 | some o =>
  rw[q] at e;have e':(b,o)=p:=cv e;subst e';exact ⟨hb,q⟩
theorem Inv.pinned {σ:St} (I:Inv X pins σ H s) (hf:∀b∈fp,jQ X pins H b) (ho:∀b∈fp,∃o,s.heap.get? b=some o/\∀v,o.data≠.cell v):Inv X (pins++AG fp s.heap) σ H s :=
 I.pins_of λp hp=>(az.mp hp).elim (λz=>I.pin p (bR _ z)) λz=>by
  obtain ⟨hb,e⟩:=Ke z;obtain ⟨f0,f1,f2,_⟩:=hf p.1 hb;obtain ⟨o,e',d⟩:=ho p.1 hb;rw[e] at e';cases e';exact ⟨e,f0,f1,f2,d⟩
theorem Inv.unpinned {σ:St} (I:Inv X (pins++pl) σ H s):Inv X pins σ H s:=I.pins_of λp hp=>I.pin p (bR _ (eT _ hp))
theorem eL {iter:Expr} {body:List Stmt} {wi:TI} {g:TG} {tb:TS} {pos:Pos} (hp:PassesOwn (model X.prog X.w) X.A X.env X.xe) (hc:X.calm=true) (hi:PI X tg iter wi) (hg:PG X tg g) (hb:Io X body tb)
  (hs:∀x,foldedSetIterable iter X.env x=pure x:=by intro _;rfl):PS X (.For tg iter body [] pos) (RM wi g tb):=by
 intro pins s σ H D I h;refine wpAny_For (fY (hi pins s σ H _ I h) λv s1 h1=>fY h1 λitv s2 h2=>?_) hs;obtain ⟨it,fp,tn,J,H2,e,I2,T,st2,f2,W,⟨m0,w0⟩,turn⟩:=h2;subst e;have stat:∀{H':Hp},(∀b∈fp,H' b=none)->∀b∈fp,jQ X pins H' b:=λhn b hb=>⟨hn b hb,(f2 b hb).2⟩
 refine codeAny_forLoop_any (λn s'=>∃i σ' H',Inv X pins σ' H' s'/\tn i s'.heap/\(∀b∈fp,H' b=none)/\W i n σ' H') ?_ m0 ⟨0,σ,H2,I2,st2,λb hb=>(f2 b hb).1,w0⟩;rintro n s3 ⟨i,σ3,H3,I3,st3,fr3,w3⟩;rcases turn i n σ3 H3 w3 with ⟨stop,qn⟩ | ⟨go,N,hN,step⟩
 ·refine wpAny_passesOwn hp (fY (T.done X rfl rfl rfl hc i pins s3 σ3 H3 X.xe I3 (stat fr3) st3 stop) λr s4 ⟨hr,I4⟩=>?_);subst hr;exact wpAny_execs_nil ⟨σ3,H3,I4,qn⟩
 ·refine wpAny_passesOwn hp (fY (T.item X rfl rfl rfl hc i pins s3 σ3 H3 X.xe I3 (stat fr3) st3 go) λr s4 ⟨u,hr,h4⟩=>?_);subst hr;refine wpAny_passesOwn hp (fY h4 λ_ s5 ⟨x,H5,I5,r5,y5,st5,fr5⟩=>?_);have I5':=I5.pinned (stat fr5) (T.obj _ _ st5);refine wpAny_passesOwn hp (fY (hg _ s5 σ3 H5 x u _ I5' r5 (step x H5 y5)) λ_ s6 ⟨σ6,H6,I6,q6⟩=>?_);refine wpAny_passesOwn hp (fY (hb _ s6 σ6 H6 _ I6 q6) λf s7 q7=>?_)
  have again:∀{σ7:St} {H7:Hp},Inv X (pins++AG fp s5.heap) σ7 H7 s7->N σ7 H7->∃m,m < n/\∃i σ' H',Inv X pins σ' H' s7/\tn i s7.heap/\(∀b∈fp,H' b=none)/\W i m σ' H':=λ{σ7 H7} I7 n7=>by
   obtain ⟨m',hm,w7⟩:=hN σ7 H7 n7;refine ⟨m',hm,i+1,σ7,H7,I7.unpinned,T.keep _ _ _ st5 λb hb o e=>(I7.pin (b,o) (bR _ (bR _ (p7 hb e)))).1,λb hb=>?_,w7⟩;obtain ⟨o,e,d⟩:=T.obj _ _ st5 b hb;exact (I7.pin (b,o) (bR _ (bR _ (p7 hb e)))).2.1
  cases f with
  | next=>obtain ⟨σ7,H7,I7,n7⟩:=q7;exact again I7 n7
  | cont=>obtain ⟨σ7,H7,I7,n7⟩:=q7;exact again I7 n7
  | brk=>obtain ⟨σ7,H7,I7,q7⟩:=q7;exact ⟨σ7,H7,I7.unpinned,q7⟩
  | ret v=>obtain ⟨x7,σ7,H7,I7,r7,q7⟩:=q7;exact ⟨x7,σ7,H7,I7.unpinned,r7,q7⟩
end
theorem mJ {K:FG9} {g:TG} {tb:TS} {D:Ends} (Pv:Nat->St->Hp->Prop) (h0:Pv 0 σ H) (hl:∀i σ H,i<=xs.length->Pv i σ H->bU K H a xs)
  (hs:∀i x σ H,xs[i]?=some x->Pv i σ H->g x σ H λσ2 H2=>tb { D with nx:=Pv (i+1),ct:=Pv (i+1),bk:=D.nx } σ2 H2) (hd:∀σ H,Pv xs.length σ H->D.nx σ H) :
  ∃W:Nat->Nat->St->Hp->Prop,(∃m,W 0 m σ H)/\∀i m σ H,W i m σ H →
   ((Ow K a).stop i H/\D.nx σ H)\/((Ow K a).go i H/\∃N:St->Hp->Prop,(∀σ' H',N σ' H'->∃m',m' < m/\W (i+1) m' σ' H')/\∀x H',(Ow K a).yld i H x H'->g x σ H' λσ2 H2=>tb { D with nx:=N,ct:=N,bk:=D.nx } σ2 H2):=by
 refine ⟨λi m σ H=>m=xs.length - i/\i<=xs.length/\Pv i σ H,⟨xs.length,by simp,bL _,h0⟩,?_⟩;rintro i m σ H ⟨rfl,hi,p⟩;have q:=hl i σ H hi p;by_cases hlt:i < xs.length
 ·refine .inr ⟨⟨xs,xs[i],q,by simp [hlt]⟩,Pv (i+1),λσ' H' p'=>⟨xs.length - (i+1),by lia,rfl,hlt,p'⟩,λx H' y=>?_⟩;obtain ⟨e,y⟩:=y;subst e;exact hs i x σ _ (y xs q) p
 ·have e:i=xs.length:=by lia
  subst e;exact .inl ⟨⟨xs,q,aj _⟩,hd σ H p⟩
theorem N9 {K:FG9} {g:TG} {tb:TS} {D:Ends} (Pv:Nat->St->Hp->Prop) (h0:Pv 0 σ H) (hl:∀i σ H,i<=xs.length->Pv i σ H->mP K H a xs)
  (hs:∀i x σ H,xs[i]?=some x->Pv i σ H->g x σ H λσ2 H2=>tb { D with nx:=Pv (i+1),ct:=Pv (i+1),bk:=D.nx } σ2 H2) (hd:∀σ H,Pv xs.length σ H->D.nx σ H) :
  ∃W:Nat->Nat->St->Hp->Prop,(∃m,W 0 m σ H)/\∀i m σ H,W i m σ H →
   ((Ri K a).stop i H/\D.nx σ H)\/((Ri K a).go i H/\∃N:St->Hp->Prop,(∀σ' H',N σ' H'->∃m',m' < m/\W (i+1) m' σ' H')/\∀x H',(Ri K a).yld i H x H'->g x σ H' λσ2 H2=>tb { D with nx:=N,ct:=N,bk:=D.nx } σ2 H2):=by
 refine ⟨λi m σ H=>m=xs.length - i/\i<=xs.length/\Pv i σ H,⟨xs.length,by simp,bL _,h0⟩,?_⟩;rintro i m σ H ⟨rfl,hi,p⟩;have q:=hl i σ H hi p;by_cases hlt:i < xs.length
 ·refine .inr ⟨⟨xs,xs[i],q,by simp [hlt]⟩,Pv (i+1),λσ' H' p'=>⟨xs.length - (i+1),by lia,rfl,hlt,p'⟩,λx H' y=>?_⟩;obtain ⟨e,y⟩:=y;subst e;exact hs i x σ _ (y xs q) p
 ·have e:i=xs.length:=by lia
  subst e;exact .inl ⟨⟨xs,q,aj _⟩,hd σ H p⟩
theorem CV {lo:Int} {g:TG} {tb:TS} {D:Ends} (Pv:Nat->St->Hp->Prop) (h0:Pv 0 σ H)
  (hs:∀i σ H,i < n->Pv i σ H->g (.int (lo+i)) σ H λσ2 H2=>tb { D with nx:=Pv (i+1),ct:=Pv (i+1),bk:=D.nx } σ2 H2) (hd:∀σ H,Pv n σ H->D.nx σ H) :
  ∃W:Nat->Nat->St->Hp->Prop,(∃m,W 0 m σ H)/\∀i m σ H,W i m σ H →
   ((GV lo n).stop i H/\D.nx σ H)\/((GV lo n).go i H/\∃N:St->Hp->Prop,(∀σ' H',N σ' H'->∃m',m' < m/\W (i+1) m' σ' H')/\∀x H',(GV lo n).yld i H x H'->g x σ H' λσ2 H2=>tb { D with nx:=N,ct:=N,bk:=D.nx } σ2 H2):=by
 refine ⟨λi m σ H=>m=n - i/\i<=n/\Pv i σ H,⟨n,by simp,bL _,h0⟩,?_⟩;rintro i m σ H ⟨rfl,hi,p⟩;by_cases hlt:i < n
 ·refine .inr ⟨hlt,Pv (i+1),λσ' H' p'=>⟨n - (i+1),by lia,rfl,hlt,p'⟩,λx H' y=>?_⟩;obtain ⟨e,y⟩:=y;subst e y;exact hs i σ _ hlt p
 ·have e:i=n:=by lia
  subst e;exact .inl ⟨aj _,hd σ H p⟩
abbrev R2:=V->V->Hp->VK->Prop
def yD (X:Cx) (f:Value->Value->Sem Value) (r:R2):Prop :=
 ∀(pins:List (Addr×Obj)) (s:Shared) (σ:St) (H:Hp) (x y:V) (v u:Value) (Q:VK),Inv X pins σ H s->RelV x v->RelV y u->r x y H Q →
  wpAny (model X.prog X.w) X.A (f v u) (EP X pins σ Q) X.xe s
def Ts (X:Cx) (f:Value->Sem Value) (r:V->Hp->VK->Prop):Prop :=
 ∀(pins:List (Addr×Obj)) (s:Shared) (σ:St) (H:Hp) (x:V) (v:Value) (Q:VK),Inv X pins σ H s->RelV x v->r x H Q →
  wpAny (model X.prog X.w) X.A (f v) (EP X pins σ Q) X.xe s
def oP (X:Cx) (f:Value) (r:List V->Hp->VK->Prop):Prop :=
 ∀(pins:List (Addr×Obj)) (s:Shared) (σ:St) (H:Hp) (xs:List V) (us:List Value) (Q:VK),Inv X pins σ H s->cQ xs us->r xs H Q →
  wpAny (model X.prog X.w) X.A (call f us) (EP X pins σ Q) X.xe s
def RH (r:R2) (ta tb:TE):TE:=λσ H Q=>ta σ H λx H1=>tb σ H1 λy H2=>r x y H2 Q
def Rw (r:V->Hp->VK->Prop) (ta:TE):TE:=λσ H Q=>ta σ H λx H1=>r x H1 Q
def rI (C:Int->Int->Prop) (g:Int->Int->V):R2:=λx y H Q=>∃i j,x=.int i/\y=.int j/\C i j/\Q (g i j) H
def NK (g:Int->Int->V):R2:=λx y H Q=>∃i j,x=.int i/\y=.int j/\Q (g i j) H
def rU (g:Int->V):V->Hp->VK->Prop:=λx H Q=>∃i,x=.int i/\Q (g i) H
section
variable {X:Cx} {a b c:Expr} {ta tb tc:TE} {pos:Pos}
theorem QT (ha:PE X a ta) (hb:PE X b tb) {σ:St} {R:V->V->Hp->Prop} (I:Inv X pins σ H s)
  (h:ta σ H λx H1=>tb σ H1 λy H2=>R x y H2) {f:Value->Value->Sem Value}
  (hf:∀v u s2 x y H2,Inv X pins σ H2 s2->RelV x v->RelV y u->R x y H2->wpAny (model X.prog X.w) X.A (f v u) Q X.xe s2) :
  wpAny (model X.prog X.w) X.A (eval a X.env) (λv s₁=>wpAny (model X.prog X.w) X.A (eval b X.env) (λu s₂=>wpAny (model X.prog X.w) X.A (f v u) Q X.xe s₂) X.xe s₁) X.xe s:=by
 refine fY (ha pins s σ H _ I h) λv s1 ⟨x,H1,I1,r1,q1⟩=>?_
 refine fY (hb pins s1 σ H1 _ I1 q1) λu s2 ⟨y,H2,I2,r2,q2⟩=>?_
 exact hf v u s2 x y H2 I2 r1 r2 q2
theorem bT (ho:yD X (binaryOp op) r) (ha:PE X a ta) (hb:PE X b tb):PE X (.BinOp a op b pos) (RH r ta tb):=by
 intro pins s σ H Q I h;exact wpAny_BinOp (QT ha hb I h λv u s2 x y H2 I2 rx ry q=>ho pins s2 σ H2 x y v u Q I2 rx ry q)
theorem AI (ho:Ts X (unaryOp op) r) (ha:PE X a ta):PE X (.UnaryOp op a pos) (Rw r ta):=by
 intro pins s σ H Q I h;exact UnaryOp_ (fY (ha pins s σ H _ I h) λv s1 ⟨x,H1,I1,r1,q1⟩=>ho pins s1 σ H1 x v Q I1 r1 q1)
theorem S3 {g:Int->Int->Int}
  (rule:∀(i j:Int) (t u:Tok) (s:Shared) (Q:Value->Shared->Prop) (E:Value->Shared->Prop),C i j->Q (.int (g i j) s.toks) { s with toks:=s.toks+1 }->wpAny (model X.prog X.w) X.A (f (.int i t) (.int j u)) Q E s) :
  yD X f (rI C λi j=>.int (g i j)):=by
 intro pins s σ H x y v u Q I rx ry h;obtain ⟨i,j,rfl,rfl,hc,q⟩:=h;obtain ⟨t,rfl⟩:=rx;obtain ⟨t',rfl⟩:=ry;exact rule i j t t' s _ _ hc ⟨.int (g i j),H,I.tok _,⟨_,rfl⟩,q⟩
theorem Sl {g:Int->Int->Int}
  (rule:∀(i j:Int) (t u:Tok) (s:Shared) (Q:Value->Shared->Prop) (E:Value->Shared->Prop),Q (.int (g i j) s.toks) { s with toks:=s.toks+1 }->wpAny (model X.prog X.w) X.A (f (.int i t) (.int j u)) Q E s) :
  yD X f (NK λi j=>.int (g i j)):=by
 intro pins s σ H x y v u Q I rx ry h;obtain ⟨i,j,rfl,rfl,q⟩:=h;obtain ⟨t,rfl⟩:=rx;obtain ⟨t',rfl⟩:=ry;exact rule i j t t' s _ _ ⟨.int (g i j),H,I.tok _,⟨_,rfl⟩,q⟩
theorem NU {g:Int->Int->Bool}
  (rule:∀(i j:Int) (t u:Tok) (s:Shared) (Q:Value->Shared->Prop) (E:Value->Shared->Prop),Q (.bool (g i j)) s->wpAny (model X.prog X.w) X.A (f (.int i t) (.int j u)) Q E s) :
  yD X f (NK λi j=>.bl (g i j)):=by
 intro pins s σ H x y v u Q I rx ry h;obtain ⟨i,j,rfl,rfl,q⟩:=h;obtain ⟨t,rfl⟩:=rx;obtain ⟨t',rfl⟩:=ry;exact rule i j t t' s _ _ ⟨.bl (g i j),H,I,rfl,q⟩
def Q2 (i j:Int):Prop:=(-(2^64) < i/\i < 2^64)\/(-(2^64) < j/\j < 2^64)
theorem Q2.ok (h:Q2 i j):IntMulOk i j:=by
 rcases h with ⟨h1,h2⟩ | ⟨h1,h2⟩
 ·exact .of_left (intBits_le_64 h1 h2)
 ·exact .of_right (intBits_le_64 h1 h2)
theorem fJ:yD X (binaryOp .Add) (NK λi j=>.int (i+j)):=Sl λ_ _ _ _ _ _ _ q=>add_int q
theorem jJ:yD X (binaryOp .Sub) (NK λi j=>.int (i - j)):=Sl λ_ _ _ _ _ _ _ q=>sub_int q
theorem nN:yD X (binaryOp .Mod) (rI (λ_ j=>0 < j) λi j=>.int (i % j)):=S3 λi j _ _ _ _ _ hc q=>by
 have h1:(0:Int) < j:=hc;exact mod_int' (by lia) (by rw[Int.fmod_eq_emod_of_nonneg i (by lia)];exact q)
theorem NT:yD X (binaryOp .Mod) (rI (λ_ j=>j≠0) λi j=>.int (i.fmod j)):=S3 λ_ _ _ _ _ _ _ hc q=>mod_int' hc q
theorem unI {g:Int->Int}
  (rule:∀(i:Int) (t:Tok) (s:Shared) (Q:Value->Shared->Prop) (E:Value->Shared->Prop),Q (.int (g i) s.toks) { s with toks:=s.toks+1 }->wpAny (model X.prog X.w) X.A (f (.int i t)) Q E s) :
  Ts X f (rU λi=>.int (g i)):=by
 intro pins s σ H x v Q I rx h;obtain ⟨i,rfl,q⟩:=h;obtain ⟨t,rfl⟩:=rx;exact rule i t s _ _ ⟨.int (g i),H,I.tok _,⟨_,rfl⟩,q⟩
theorem uw:Ts X (unaryOp .USub) (rU λi=>.int (-i)):=unI λ_ _ _ _ _ q=>neg_int q
end
def RU:V->V->Bool
 | .non,.non=>true | .non,.int _=>true | .int _,.non=>true | .non,.bl _=>true | .bl _,.non=>true | .non,.str _=>true | .str _,.non=>true
 | .int _,.int _=>true | .bl _,.bl _=>true | .str _,.str _=>true | .byt _,.byt _=>true
 | .int _,.str _=>true | .str _,.int _=>true | .bl _,.str _=>true | .str _,.bl _=>true
 | _,_=>false
def rEq:R2:=λx y H Q=>RU x y=true/\Q (.bl (decide (x=y))) H
def rNe:R2:=λx y H Q=>RU x y=true/\Q (.bl (!decide (x=y))) H
theorem Jv:decide (V.int i=V.int j)=(i == j):=by
 rw[lI];simp
theorem Mz:decide (V.bl i=V.bl j)=(i == j):=by
 rw[lI];simp
theorem Ju:decide (V.str i=V.str j)=(i == j):=by
 rw[lI];simp
theorem Jw:decide (V.byt i=V.byt j)=(i.toList == j.toList):=by
 rw[lI];cases i;cases j;simp
section
variable {X:Cx} {a b c:Expr} {ta tb tc:TE} {pos:Pos}
theorem dk {σ:St} (I:Inv X pins σ H s) (q:Q (.bl k) H) (e:k=k'):EP X pins σ Q (.bool k') s:=by
 subst e;exact ⟨.bl k,H,I,rfl,q⟩
theorem fI:yD X (compareOp .Eq) rEq:=by
 intro pins s σ H x y v u Q I rx ry h;obtain ⟨hs,q⟩:=h;cases x with
 | non =>
  cases rx;cases y with
  | non=>cases ry;exact PySem.EqNone.eq_none_none (dk I q (by simp))
  | bl j=>cases ry;exact PySem.EqNone.eq_none_bool (dk I q (by simp))
  | int j=>obtain ⟨t',rfl⟩:=ry;exact PySem.EqNone.eq_none_int (dk I q (by simp))
  | str j=>obtain ⟨t',rfl⟩:=ry;exact PySem.EqNone.eq_none_str (dk I q (by simp))
  | _=>exact absurd (show false=true from hs) bu
 | bl i =>
  cases rx;cases y with
  | non=>cases ry;exact PySem.EqNone.eq_bool_none (dk I q (by simp))
  | bl j=>cases ry;exact eq_bool (dk I q Mz)
  | str j=>obtain ⟨t',rfl⟩:=ry;exact PySem.EqMixed.eq_bool_str (dk I q (by simp))
  | _=>exact absurd (show false=true from hs) bu
 | int i =>
  obtain ⟨t,rfl⟩:=rx;cases y with
  | non=>cases ry;exact PySem.EqNone.eq_int_none (dk I q (by simp))
  | int j=>obtain ⟨t',rfl⟩:=ry;exact eq_int (dk I q Jv)
  | str j=>obtain ⟨t',rfl⟩:=ry;exact PySem.EqMixed.eq_int_str (dk I q (by simp))
  | _=>exact absurd (show false=true from hs) bu
 | str i =>
  obtain ⟨t,rfl⟩:=rx;cases y with
  | non=>cases ry;exact PySem.EqNone.eq_str_none (dk I q (by simp))
  | bl j=>cases ry;exact PySem.EqMixed.eq_str_bool (dk I q (by simp))
  | int j=>obtain ⟨t',rfl⟩:=ry;exact PySem.EqMixed.eq_str_int (dk I q (by simp))
  | str j=>obtain ⟨t',rfl⟩:=ry;exact eq_str (dk I q Ju)
  | _=>exact absurd (show false=true from hs) bu
 | byt i =>
  obtain ⟨t,rfl⟩:=rx;cases y with
  | byt j=>obtain ⟨t',rfl⟩:=ry;exact PySem.W.eq_bytes (dk I q Jw)
  | _=>exact absurd (show false=true from hs) bu
 | _=>cases y <;> exact absurd (show false=true from hs) bu
theorem vG:yD X (compareOp .NotEq) rNe:=by
 intro pins s σ H x y v u Q I rx ry h;obtain ⟨hs,q⟩:=h;cases x with
 | non =>
  cases rx;cases y with
  | non=>cases ry;exact PySem.EqNone.ne_none_none (dk I q (by simp))
  | bl j=>cases ry;exact PySem.EqNone.ne_none_bool (dk I q (by simp))
  | int j=>obtain ⟨t',rfl⟩:=ry;exact PySem.EqNone.ne_none_int (dk I q (by simp))
  | str j=>obtain ⟨t',rfl⟩:=ry;exact PySem.EqNone.ne_none_str (dk I q (by simp))
  | _=>exact absurd (show false=true from hs) bu
 | bl i =>
  cases rx;cases y with
  | non=>cases ry;exact PySem.EqNone.ne_bool_none (dk I q (by simp))
  | bl j=>cases ry;exact ne_bool (dk I q (congrArg not Mz))
  | str j=>obtain ⟨t',rfl⟩:=ry;exact PySem.EqMixed.ne_bool_str (dk I q (by simp))
  | _=>exact absurd (show false=true from hs) bu
 | int i =>
  obtain ⟨t,rfl⟩:=rx;cases y with
  | non=>cases ry;exact PySem.EqNone.ne_int_none (dk I q (by simp))
  | int j=>obtain ⟨t',rfl⟩:=ry;exact ne_int (dk I q (congrArg not Jv))
  | str j=>obtain ⟨t',rfl⟩:=ry;exact PySem.EqMixed.ne_int_str (dk I q (by simp))
  | _=>exact absurd (show false=true from hs) bu
 | str i =>
  obtain ⟨t,rfl⟩:=rx;cases y with
  | non=>cases ry;exact PySem.EqNone.ne_str_none (dk I q (by simp))
  | bl j=>cases ry;exact PySem.EqMixed.ne_str_bool (dk I q (by simp))
  | int j=>obtain ⟨t',rfl⟩:=ry;exact PySem.EqMixed.ne_str_int (dk I q (by simp))
  | str j=>obtain ⟨t',rfl⟩:=ry;exact ne_str (dk I q (congrArg not Ju))
  | _=>exact absurd (show false=true from hs) bu
 | byt i =>
  obtain ⟨t,rfl⟩:=rx;cases y with
  | byt j=>obtain ⟨t',rfl⟩:=ry;exact PySem.W.ne_bytes (dk I q (congrArg not Jw))
  | _=>exact absurd (show false=true from hs) bu
 | _=>cases y <;> exact absurd (show false=true from hs) bu
theorem rW:yD X (compareOp .Lt) (NK λi j=>.bl (decide (i < j))):=NU λ_ _ _ _ _ _ _ q=>lt_int q
theorem Sk:yD X (compareOp .LtE) (NK λi j=>.bl (decide (i<=j))):=NU λ_ _ _ _ _ _ _ q=>le_int q
theorem vH:yD X (compareOp .Gt) (NK λi j=>.bl (decide (j < i))):=NU λ_ _ _ _ _ _ _ q=>gt_int q
theorem CM:yD X (compareOp .GtE) (NK λi j=>.bl (decide (j<=i))):=NU λ_ _ _ _ _ _ _ q=>ge_int q
theorem Qq:yD X (compareOp .Is) (λx y H Q=>y=.non/\Q (.bl (decide (x=.non))) H):=by
 intro pins s σ H x y v u Q I rx ry h;obtain ⟨rfl,q⟩:=h;cases ry;refine is_none_gen (dk I q ?_)
 cases x <;> first
  | (cases rx;rfl)
  | (obtain ⟨t,rfl⟩:=rx;rfl)
theorem NS:yD X (compareOp .IsNot) (λx y H Q=>y=.non/\Q (.bl (!decide (x=.non))) H):=by
 intro pins s σ H x y v u Q I rx ry h;obtain ⟨rfl,q⟩:=h;cases ry;refine isnot_none_gen (dk I q ?_)
 cases x <;> first
  | (cases rx;rfl)
  | (obtain ⟨t,rfl⟩:=rx;rfl)
theorem bS (b:Expr) {op:CmpOp} (h:op≠.In:=by decide) (h2:op≠.NotIn:=by decide):behindInMarks op b=false:=by
 have e1:(op == CmpOp.In)=false:=by cases op <;> first | rfl | exact absurd rfl h
 have e2:(op == CmpOp.NotIn)=false:=by cases op <;> first | rfl | exact absurd rfl h2
 cases b <;> simp [behindInMarks,e1,e2]
theorem jV (ho:yD X (compareOp op) r) (ha:PE X a ta) (hb:PE X b tb) (hm:behindInMarks op b=false):PE X (.Compare a [op] [b] pos) (RH r ta tb):=by
 intro pins s σ H Q I h;exact wpAny_Compare1 (QT ha hb I h λv u s2 x y H2 I2 rx ry q=>ho pins s2 σ H2 x y v u Q I2 rx ry q) hm
def OB (t:TE):TT:=λσ H Q=>t σ H λx H'=>∃k,x=.bl k/\Q k H'
theorem bF (ho:yD X (compareOp op) r) (ha:PE X a ta) (hb:PE X b tb) (hm:behindInMarks op b=false):PT X (.Compare a [op] [b] pos) (OB (RH r ta tb)):=by
 intro pins s σ H Q I h
 refine wpAny_isTrue_Compare1 (fY (ha pins s σ H _ I h) λv s1 ⟨x,H1,I1,r1,q1⟩=>fY (hb pins s1 σ H1 _ I1 q1) λu s2 ⟨y,H2,I2,r2,q2⟩ =>
  fY (ho pins s2 σ H2 x y v u _ I2 r1 r2 q2) λc s3 ⟨z,H3,I3,r3,k,e,q3⟩=>?_) hm
 subst e;cases r3;exact wpAny_truthy_bool ⟨H3,I3,q3⟩
theorem A4:(sizeLine:Nat) < 2^63:=by rw[sizeLine_eq];decide
theorem vals1 (r:cQ [x] us):∃u,us=[u]/\RelV x u:=by
 cases r with
 | cons r1 r2=>cases r2;exact ⟨_,rfl,r1⟩
theorem vals2 (r:cQ [x,y] us):∃u w',us=[u,w']/\RelV x u/\RelV y w':=by
 cases r with
 | cons r1 r2 =>
  cases r2 with
  | cons r3 r4=>cases r4;exact ⟨_,_,rfl,r1,r3⟩
theorem wH:oP X (.builtin "abs") (λxs H Q=>∃i,xs=[.int i]/\Q (.int (if i < 0 then -i else i)) H):=by
 intro pins s σ H xs us Q I r h;obtain ⟨i,rfl,q⟩:=h;obtain ⟨u,rfl,t,rfl⟩:=vals1 r;exact call_abs_int λu tk=>⟨.int (if i < 0 then -i else i),H,I.tok _,⟨_,rfl⟩,q⟩
theorem tu (hc:X.calm=true):oP X (.builtin "min") (λxs H Q=>∃i j,xs=[.int i,.int j]/\Q (.int (if j < i then j else i)) H):=by
 intro pins s σ H xs us Q I r h;obtain ⟨i,j,rfl,q⟩:=h;obtain ⟨u,w',rfl,⟨t,rfl⟩,⟨t',rfl⟩⟩:=vals2 r;refine min_two_ints (I.ok.hd hc) λh' tk k=>⟨_,H,I.kept k,?_,q⟩
 by_cases hj:j < i
 ·rw[if_pos hj,if_pos hj];exact ⟨_,rfl⟩
 ·rw[if_neg hj,if_neg hj];exact ⟨_,rfl⟩
end
structure Ip (h:Heap) (x dx C:Addr) (mA:Str->Option Value):Prop where
 obj:h.get? x=some (PySem.W.instObj C dx)
 ns:h.Ns1 dx mA
 ne:dx≠x
theorem Kj {h:Heap} (n:h.Ns1 dx mA):∃od,h.get? dx=some od/\∀name,PySem.W.lookIn name od=some (mA name):=by
 obtain ⟨o,es,ep,ho,hd,hk,_,hm⟩:=n;refine ⟨o,ho,λname=>?_⟩;have e:=hm name;unfold nsFind findBy at e;rw[<- Array.find?_toList] at e;unfold PySem.W.lookIn;rw[hd]
 dsimp only
 split
 ·rename_i y q
  rw[q] at e;exact congrArg some e
 ·rename_i q
  rw[q] at e
  have a:es.toList.any (·.refKey)=false:=by
   rw[List.any_eq_false];intro y hy;obtain ⟨z,t,hkey⟩:=hk y (Array.mem_toList_iff.mp hy);simp [DictEntry.refKey,hkey]
  have a':¬es.toList.any (·.refKey)=true:=by rw[a];exact bu
  rw[if_neg a'];exact congrArg some e
theorem Ip.look (I:Ip h x dx C mA):∃od,PySem.W.InstAt h x (PySem.W.instObj C dx) C (some od)/\∀name,PySem.W.lookIn name od=some (mA name) :=
 let ⟨od,ho,hl⟩:=Kj I.ns
 ⟨od,⟨I.obj,rfl,rfl,ho⟩,hl⟩
section
variable {prog:Program} {w:World} {A:Around} {E:Value->Shared->Prop} {s:Shared} {K:FG9} {x dx C f:Addr} {mA:Str->Option Value} {name:Str} {v:Value}
theorem get_map (X:K.In s.heap) (I:Ip s.heap x dx C mA) (hg:PySem.W.plainGet K C name=true) (hh:PySem.W.hasDictIn K C=true)
  (ha:PySem.W.findIn K (.ref C) name=some none) (hv:mA name=some v) (hv':PySem.W.handedIn v=true) (h:Q v { s with toks:=s.toks+1 }) :
  wpAny (model prog w) A (getAttr (.ref x) name expr) Q E s:=by
 obtain ⟨od,J,hl⟩:=I.look;exact PySem.W.get_value X J (Ff hg).1 (PySem.W.findObj_own hh ha rfl (by rw[hl,hv])) hv' h
theorem Md (X:K.In s.heap) (I:Ip s.heap x dx C mA) (hg:PySem.W.plainGet K C name=true)
  (hf:PySem.W.findIn K (.ref C) name=some (some (.ref f))) (ht:PySem.W.isFn K (.ref f)=true) (hv:mA name=none) (h:Q (.ref f,[.ref x]) s) :
  wpAny (model prog w) A (getMethod (.ref x) name pl) Q E s:=by
 obtain ⟨od,J,hl⟩:=I.look;exact PySem.W.method_fn X J (Ff hg).1 (Ff hg).2 hf (beq_iff_eq.mp ht) (by show (PySem.W.lookIn name od).map (·.isSome)=some false;rw[hl,hv];rfl) h
theorem Nh (X:K.In s.heap) (I:Ip s.heap x dx C mA)
  (hs:PySem.W.findIn K (.ref C) "__setattr__"=some (some (.builtin "object.__setattr__"))) (hp:PySem.W.plainOver K C=true) (ht:PySem.W.takerIn K C name=some none) (hh:PySem.W.hasDictIn K C=true)
  (hw:PySem.Within mA ns) (hsz:ns.length<=sizeLine)
  (h:∀h',Ip h' x dx C (λy=>if y=name then some v else mA y)->Heap.SameBut dx s.heap h'->Q () { s with heap:=h',toks:=s.toks+2 }) :
  wpAny (model prog w) A (setAttr (.ref x) name v) Q E s:=by
 obtain ⟨od,J,hl⟩:=I.look;refine PySem.W.set_plain X J hs (PySem.W.osa_open (s:={ s with toks:=s.toks+1 }) (r:=none) X J hp ht λb=>?_);obtain ⟨cd,hc,hd'⟩:=PySem.W.any_some hh;have hx:s.heap.get? x=some ⟨.ref C,some dx,.plain,#[]⟩:=I.obj;refine wpAny_bind (wpAny_pure (wpAny_bind (wpAny_bind (wpAny_loadPart hx (wpAny_bind (PySem.W.Looks.here (s:={ s with toks:=s.toks+1 }) (PySem.W.looks_clsIn X hc) ?_))))));rw[hd'];refine wpAny_pure (a:=some dx) (wpAny_bind (wpAny_pure (wpAny_bind ?_)));refine wpAny_nsSet1 (s:={ s with toks:=s.toks+1 }) I.ns λh' hn2 hs2=>?_
 obtain ⟨oD,esD,epD,hoD,hdD,hcD⟩:=hn2.count (PySem.Within.cons name v hw);refine wpAny_bind (wpAny_lookBehind hoD (by rw[hdD];exact pastItsLine_dict (ai hcD (by rw[bD];lia))) ?_);exact wpAny_pure (h _ ⟨(hs2.2 _ (Ne.symm I.ne)).trans I.obj,hn2,I.ne⟩ hs2)
theorem LP (X:K.In s.heap) (hm:PySem.W.makesIn K C=true)
  (hi:PySem.W.findIn K (.ref C) "__init__"=some (some (.ref f))) (hf:PySem.W.typeIn K (.ref f)=some (.type "function"))
  (h:codeAny (model prog w) (A.under (.builtin "type.__call__" ⟨.ref C :: vs,kw⟩)) (.call (.ref f) ⟨.ref (s.heap.objs.size+1) :: vs,kw⟩) (PySem.W.InitBack (s.heap.objs.size+1) R)
   { s with heap:=(s.heap.push PySem.W.emptyDict).push (PySem.W.instObj C s.heap.objs.size) }) :
  codeAny (model prog w) A (.call (.ref C) ⟨vs,kw⟩) R s:=by
 obtain ⟨hh,g,d,t,os⟩:=s;exact PySem.W.make_core (PySem.W.makes_of X hm) (PySem.W.looks_findIn X hi) (λself=>PySem.W.bind_fn X self hf) (.inl rfl) h
end
def cD (f:Str) (v:V):List (Str×V)->List (Str×V)
 | []=>[(f,v)]
 | (g,x) :: r=>if g=f then (g,v) :: r else (g,x) :: cD f v r
theorem bE (f g:Str) (v:V):∀fs:List (Str×V),(cD f v fs).lookup g=if g=f then some v else fs.lookup g
 | []=>by
  show List.lookup g [(f,v)]=_
  by_cases h:g=f
  ·have hb:(g == f)=true:=beq_iff_eq.mpr h;simp only[List.lookup,hb,if_pos h]
  ·have hb:(g == f)=false:=beq_eq_false_iff_ne.mpr h;simp only[List.lookup,hb,if_neg h]
 | (k,x) :: r=>by
  have ih:=bE f g v r;rw[show cD f v ((k,x) :: r)=(if k=f then (k,v) :: r else (k,x) :: cD f v r) from rfl];by_cases hk:k=f
  ·rw[if_pos hk];by_cases h:g=k
   ·have hb:(g == k)=true:=beq_iff_eq.mpr h;simp only[List.lookup,hb,if_pos (h.trans hk)]
   ·have hb:(g == k)=false:=beq_eq_false_iff_ne.mpr h;simp only[List.lookup,hb,if_neg (λe:g=f=>h (e.trans hk.symm))]
  ·rw[if_neg hk];by_cases h:g=k
   ·have hb:(g == k)=true:=beq_iff_eq.mpr h;simp only[List.lookup,hb,if_neg (λe:g=f=>hk (h.symm.trans e))]
   ·have hb:(g == k)=false:=beq_eq_false_iff_ne.mpr h;simp only[List.lookup,hb];exact ih
theorem yq (f:Str) (v:V):∀fs:List (Str×V),f∈(cD f v fs).map (·.1)/\∀g,g∈fs.map (·.1)->g∈(cD f v fs).map (·.1)
 | []=>⟨by simp [cD],λg h=>by simp at h⟩
 | (k,x) :: r=>by
  obtain ⟨i1,i2⟩:=yq f v r;rw[show cD f v ((k,x) :: r)=(if k=f then (k,v) :: r else (k,x) :: cD f v r) from rfl];by_cases hk:k=f
  ·rw[if_pos hk];subst hk;exact ⟨by simp,λg h=>by simpa using h⟩
  ·rw[if_neg hk];refine ⟨?_,λg h=>?_⟩
   ·rw[gN];exact ck _ i1
   ·rw[gN] at h ⊢;rcases aG.mp h with e | e
    ·exact aG.mpr (.inl e)
    ·exact ck _ (i2 g e)
theorem yN (f:Str) (v:V):∀fs:List (Str×V),(cD f v fs).length<=fs.length+1
 | []=>by simp [cD]
 | (k,x) :: r=>by
  have ih:=yN f v r;rw[show cD f v ((k,x) :: r)=(if k=f then (k,v) :: r else (k,x) :: cD f v r) from rfl];by_cases hk:k=f
  ·rw[if_pos hk,bD,bD];lia
  ·rw[if_neg hk,bD,bD];lia
theorem Cm.some_of (r:Cm (some v) o):∃u,o=some u/\RelV v u:=by
 cases o with
 | none=>exact (show False from r).elim
 | some u=>exact ⟨u,rfl,r⟩
theorem Cm.none_of (r:Cm none o):o=none:=by
 cases o with
 | none=>rfl
 | some u=>exact (show False from r).elim
theorem Kp (r:RelV v u):PySem.W.handedIn u=true:=by
 cases v with
 | non=>cases (show u=Value.none from r);rfl
 | bl b=>cases (show u=Value.bool b from r);rfl
 | int i=>obtain ⟨t,e⟩:=(show ∃t,u=Value.int i t from r);cases e;rfl
 | str x=>obtain ⟨t,e⟩:=(show ∃t,u=Value.str x t from r);cases e;rfl
 | byt b=>obtain ⟨t,e⟩:=(show ∃t,u=Value.bytes b t from r);cases e;rfl
 | flt b=>obtain ⟨t,e⟩:=(show ∃t,u=Value.float b t from r);cases e;rfl
 | ref a=>cases (show u=Value.ref a from r);rfl
 | ty n=>cases (show u=Value.type n from r);rfl
section
variable {P:Program} {w:World} {H H':Hp} {h h':Heap} {a C dx:Addr} {fs fs':List (Str×V)}
theorem z8 (hok:Ab P w H h) (e:H a=some (.ins C dx fs)):∃mA,Ip h a dx C mA/\(∀f,Cm (fs.lookup f) (mA f))/\PySem.Within mA (fs.map (·.1))/\fs.length<=1000/\H dx=some (.own a):=by
 obtain ⟨d,z,ne,ob,mA,n,r,q⟩:=(show iV P w H h a (.ins C dx fs) from hok a _ e);exact ⟨mA,⟨ob,n,ne⟩,r,q,z,d⟩
end
structure KC (K:FG9) (C:Addr):Prop where
 pg:PySem.W.plainGet K C Str.empty=true
 hd:PySem.W.hasDictIn K C=true
 po:PySem.W.plainOver K C=true
 sa:PySem.W.findIn K (.ref C) "__setattr__"=some (some (.builtin "object.__setattr__"))
theorem KC.get {K:FG9} (c:KC K C) (f:Str):PySem.W.plainGet K C f=true:=c.pg
def ju (K:FG9) (C:Addr) (f:Str):Prop:=PySem.W.findIn K (.ref C) f=some none
theorem ju.taker {K:FG9} (n:ju K C f):PySem.W.takerIn K C f=some none:=by
 unfold PySem.W.takerIn;rw[show PySem.W.findIn K (.ref C) f=some none from n];rfl
structure QY (K:FG9) (C:Addr) (m:Str) (f:Addr):Prop where
 at_:PySem.W.findIn K (.ref C) m=some (some (.ref f))
 fn:PySem.W.isFn K (.ref f)=true
 kp:PySem.W.keepIn K (.ref f)=true
section
variable {X:Cx} {pins:List (Addr×Obj)} {σ:St} {H:Hp} {s:Shared} {a C dx:Addr} {fs:List (Str×V)} {f:Str} {v:V} {A:Around} {E:Value->Shared->Prop}
theorem Ib (I:Inv X pins σ H s) (e:H a=some (.ins C dx fs)) (c:KC X.K C) (n:ju X.K C f) (l:fs.lookup f=some v)
  (h:∀u s',Inv X pins σ H s'->RelV v u->Q u s'):wpAny (model X.prog X.w) A (getAttr (.ref a) f b) Q E s:=by
 obtain ⟨mA,O,r,_,_,_⟩:=z8 I.hok e;obtain ⟨u,hu,ru⟩:=Cm.some_of (v:=v) (o:=mA f) (by rw[<- l];exact r f);exact get_map I.kIn O (c.get f) c.hd n hu (Kp ru) (h u _ (I.tok _) ru)
theorem Ia (I:Inv X pins σ H s) (e:H a=some (.ins C dx fs)) (c:KC X.K C) (k:QY X.K C m g) (l:fs.lookup m=none)
  (h:Q (.ref g,[.ref a]) s):wpAny (model X.prog X.w) A (getMethod (.ref a) m pl) Q E s:=by
 obtain ⟨mA,O,r,_,_,_⟩:=z8 I.hok e;have hn:mA m=none:=Cm.none_of (by rw[<- l];exact r m);exact Md I.kIn O (c.get m) k.at_ k.fn hn h
theorem Hw (I:Inv X pins σ H s) (e:H a=some (.ins C dx fs)) (c:KC X.K C) (n:ju X.K C f) (hl:fs.length < 1000) (ry:RelV y u)
  (h:∀s',Inv X pins σ (upd H a (.ins C dx (cD f y fs))) s'->Q () s'):wpAny (model X.prog X.w) A (setAttr (.ref a) f u) Q E s:=by
 obtain ⟨mA,O,r,wi,_,ho⟩:=z8 I.hok e;have hz:(fs.map (·.1)).length<=sizeLine:=by rw[ag,sizeLine_eq];lia
 refine Nh I.kIn O c.sa c.po n.taker c.hd wi hz λh' O' sb=>h _ ?_
 have hd:∃o,h'.get? dx=some o:=let ⟨o,_,_,e',_⟩:=O'.ns;⟨o,e'⟩
 refine I.write (x:=a) (e:=dx) (by rw[e];exact True.intro) (.inr ho) (λb q hb z=>(sb.2 b hb).trans z) hd ?_;refine ⟨by rw[bN O.ne];exact ho,?_,O.ne,O'.obj,_,O'.ns,λg=>?_,λg hg=>?_⟩
 ·have:=yN f y fs;lia
 ·show Cm ((cD f y fs).lookup g) (if g=f then some u else mA g)
  rw[bE];by_cases q:g=f
  ·rw[if_pos q,if_pos q];exact ry
  ·rw[if_neg q,if_neg q];exact r g
 ·by_cases q:g=f
  ·rw[q];exact (yq f y fs).1
  ·refine (yq f y fs).2 g (wi g λz=>hg ?_);show (if g=f then some u else mA g)=none
   rw[if_neg q];exact z
theorem Inv.made (I:Inv X pins σ H s):Inv X pins σ (upd (upd H s.heap.objs.size (.own (s.heap.objs.size+1))) (s.heap.objs.size+1) (.ins C s.heap.objs.size []))
  { s with heap:=(s.heap.push PySem.W.emptyDict).push (PySem.W.instObj C s.heap.objs.size) }:=by
 have e1:(s.heap.push PySem.W.emptyDict).get? s.heap.objs.size=some PySem.W.emptyDict:=Heap.get?_push_size s.heap rfl
 have e2:((s.heap.push PySem.W.emptyDict).push (PySem.W.instObj C s.heap.objs.size)).get? (s.heap.objs.size+1)=some (PySem.W.instObj C s.heap.objs.size):=by
  have:=Heap.get?_push_size (s.heap.push PySem.W.emptyDict) (o:=PySem.W.instObj C s.heap.objs.size) rfl;rwa [Heap.size_push] at this
 have e3:(s.heap.push PySem.W.emptyDict).Ns s.heap.objs.size (λ_=>none):=⟨PySem.W.emptyDict,#[],_,e1,rfl,(λe he=>absurd he (by simp)),λ_=>rfl⟩;have I1:=I.laid (a:=s.heap.objs.size) (o:=.own (s.heap.objs.size+1)) (h':=s.heap.push PySem.W.emptyDict) (t':=s.toks) (λb u q=>Heap.get?_push_of_some _ q) (aj _) ⟨_,e1⟩;refine I1.laid (a:=s.heap.objs.size+1) (o:=.ins C s.heap.objs.size []) (t':=s.toks) (λb u q=>Heap.get?_push_of_some _ q) (Nat.le_of_eq (Heap.size_push _ _)) ?_;have ne:s.heap.objs.size≠s.heap.objs.size+1:=cU (eH _);refine ⟨by rw[bN ne,aM],bL _,ne,e2,λ_=>none,(Heap.Ns1.of_empty e3).at λo q=>Heap.get?_push_of_some _ q,λ_=>True.intro,λy hy=>absurd rfl hy⟩
theorem Om (hb:attributeBase e f env (eval e env)=eval e env)
  (h:wpAny (model prog w) A (eval e env) (λo s₁=>wpAny (model prog w) A (getAttr o f true) Q E s₁) E s):wpAny (model prog w) A (eval (.Attribute e f pos) env) Q E s :=
 Attribute_any_ h (by rw[arm_eval_Attribute,hb])
end
def Pt (K:FG9) (ta:TE) (f:Str):TE:=λσ H Q=>ta σ H λx H1=>∃a C dx fs v,x=.ref a/\H1 a=some (.ins C dx fs)/\KC K C/\ju K C f/\fs.lookup f=some v/\Q v H1
def RW (K:FG9) (ta tv:TE) (f:Str):TS:=λD σ H=>tv σ H λy H1=>ta σ H1 λx H2=>∃a C dx fs,x=.ref a/\H2 a=some (.ins C dx fs)/\KC K C/\ju K C f/\fs.length < 1000 /\
 D.nx σ (upd H2 a (.ins C dx (cD f y fs)))
section
variable {X:Cx} {o e value:Expr} {f:Str} {pos pos' tpos:Pos} {ta tv:TE}
theorem cY (he:PE X e ta) (hb:attributeBase e f X.env (eval e X.env)=eval e X.env):PE X (.Attribute e f pos) (Pt X.K ta f):=by
 intro pins s σ H Q I h;refine Om hb (fY (he pins s σ H _ I h) λu s1 ⟨x,H1,I1,rx,a,C,dx,fs,v,ex,ea,c,n,l,q⟩=>?_);subst ex;obtain rfl:u=Value.ref a:=rx;exact Ib I1 ea c n l λu' s2 I2 ru=>⟨v,H1,I2,ru,q⟩
theorem xY (ha:PE X o ta) (hv:PE X value tv) (hs:swapsWith value (some (.Attribute o f pos')) pos.line X.env=pure false):PS X (.Assign [.Attribute o f pos'] value pos) (RW X.K ta tv f):=by
 intro pins s σ H D I h;refine plainObj_wpAny_Assign_Attribute (fY (hv pins s σ H _ I h) λu s1 ⟨y,H1,I1,ry,q⟩=>fY (ha pins s1 σ H1 _ I1 q) λov s2 ⟨x,H2,I2,rx,a,C,dx,fs,ex,ea,c,n,l,q2⟩=>?_) hs;subst ex;obtain rfl:ov=Value.ref a:=rx;exact Hw I2 ea c n l ry λs3 I3=>⟨σ,_,I3,q2⟩
end
section
variable {X:Cx} {pins:List (Addr×Obj)} {σ:St} {H:Hp} {s:Shared} {A:Around} {E:Value->Shared->Prop} {Q:Value->Shared->Prop} {c:Value} {b:Bool}
inductive va (K:FG9) (H:Hp):V->Value->Prop where
 | non:va K H .non (.type "NoneType")
 | bl (x:Bool):va K H (.bl x) (.type "bool")
 | int (i:Int):va K H (.int i) (.type "int")
 | str (x:Str):va K H (.str x) (.type "str")
 | flt (x:UInt64):va K H (.flt x) (.type "float")
 | lst {a:Addr} {xs:List V} (e:H a=some (.lst xs)):va K H (.ref a) (.type "list")
 | frz {a:Addr} {o:Obj} {xs:List V} (e:H a=some (.frz o (.lst xs))):va K H (.ref a) (.type "list")
 | tup {a:Addr} {xs:List V} (e:H a=some (.tup xs)):va K H (.ref a) (.type "tuple")
 | dK {a:Addr} {kvs:List (Key×V)} (e:H a=some (.dK kvs)):va K H (.ref a) (.type "dict")
 | dT {a:Addr} {kvs:List (List Key×V)} (e:H a=some (.dT kvs)):va K H (.ref a) (.type "dict")
 | ins {a C dx:Addr} {fs:List (Str×V)} (e:H a=some (.ins C dx fs)) (cl:KC K C) (ha:PySem.W.findIn K (.ref C) "__class__"=some (some (.builtin "object.__class__")))
   (hn:PySem.W.specialIn K (.builtin "object.__class__") "__get__"=some (some (.builtin "getset_descriptor.__get__"))) (htk:PySem.W.takesIn K (.builtin "object.__class__")=some true)
   (hm:PySem.W.mroIn K C (.type "object")=some true):va K H (.ref a) (.ref C)
theorem yt (I:Inv X pins σ H s) (rx:RelV x u) (ty:va X.K H x t) (e:PySem.W.kitOne X.K t c=some b) (h:∀tk,Q (.bool b) { s with toks:=tk }) :
  wpAny (model X.prog X.w) A (call (.builtin "isinstance") [u,c]) Q E s:=by
 cases ty with
 | non=>cases (show u=Value.none from rx);exact du PySem.W.kitx_none I.kIn True.intro e (λz=>nomatch z) h
 | bl y=>cases (show u=Value.bool y from rx);exact du PySem.W.kitx_bool I.kIn True.intro e (λz=>nomatch z) h
 | int i=>obtain ⟨t,q⟩:=(show ∃t,u=Value.int i t from rx);cases q;exact du PySem.W.kitx_int I.kIn True.intro e (λz=>nomatch z) h
 | str y=>obtain ⟨t,q⟩:=(show ∃t,u=Value.str y t from rx);cases q;exact du PySem.W.kitx_str I.kIn True.intro e (λz=>nomatch z) h
 | flt y=>obtain ⟨t,q⟩:=(show ∃t,u=Value.float y t from rx);cases q;exact du PySem.W.kitx_float I.kIn True.intro e (λz=>nomatch z) h
 | @lst a xs ea =>
  cases (show u=Value.ref a from rx);obtain ⟨_,_,n,_,h1⟩:=(show iV X.prog X.w H s.heap a (.lst xs) from I.hok a _ ea);exact du PySem.W.kitx_list I.kIn ⟨_,h1,rfl⟩ e (λz=>nomatch z) h
 | @frz a ob xs ea =>
  cases (show u=Value.ref a from rx);obtain ⟨_,_,_,n,_,h1⟩:=(show iV X.prog X.w H s.heap a (.frz ob (.lst xs)) from I.hok a _ ea);exact du PySem.W.kitx_list I.kIn ⟨_,h1,rfl⟩ e (λz=>nomatch z) h
 | @tup a xs ea =>
  cases (show u=Value.ref a from rx);obtain ⟨_,_,_,p⟩:=(show iV X.prog X.w H s.heap a (.tup xs) from I.hok a _ ea);obtain ⟨o,h1,h2,_⟩:=p;exact du PySem.W.kitx_tuple I.kIn ⟨o,h1,h2⟩ e (λz=>nomatch z) h
 | @dK a kvs ea =>
  cases (show u=Value.ref a from rx);obtain ⟨_,_,vs,_,p⟩:=(show iV X.prog X.w H s.heap a (.dK kvs) from I.hok a _ ea);obtain ⟨o,es,ep,h1,h2,_⟩:=p;exact du PySem.W.kitx_dict I.kIn ⟨o,h1,h2.1⟩ e (λz=>nomatch z) h
 | @dT a kvs ea =>
  cases (show u=Value.ref a from rx);obtain ⟨_,_,xs,_,o,es,ep,h1,h2,_⟩:=(show iV X.prog X.w H s.heap a (.dT kvs) from I.hok a _ ea);exact du PySem.W.kitx_dict I.kIn ⟨o,h1,h2.1⟩ e (λz=>nomatch z) h
 | @ins a C dx fs ea cl ha hn htk hm =>
  cases (show u=Value.ref a from rx);obtain ⟨mA,O,_⟩:=z8 I.hok ea;obtain ⟨od,J,_⟩:=O.look;exact du (PySem.W.kitx_own (cl.get _) cl.hd ha hn htk hm) I.kIn J e (λz=>nomatch z) h
end
structure kI (k:Nat) (A:Around):Prop where
 hd:A.handled=none
 dp:A.depth+3*k+5 < recursionLimit
 un:A.units+16*k+200 < cLine
theorem kI.mono (r:kI k A) (h:j<=k):kI j A:=⟨r.hd,by have:=r.dp;lia,by have:=r.un;lia⟩
theorem kI.deeper (r:kI (k+1) A) (env:Env):kI k (A.deeper env) :=
 ⟨r.hd,by have:=r.dp;show A.depth+1+3*k+5 < _;lia,by have:=r.un;show A.units+3+16*k+200 < _;lia⟩
theorem HW {A:Around}:(A.under (.builtin "type.__call__" ⟨.ref C :: us,kw⟩)).depth=A.depth+1:=by
 first | rfl | simp [Around.under,Code.weight,Code.isCreation,Code.isGuard,Code.isCaller,Code.frames,Code.isFrame,guardIds]
theorem HV {A:Around}:(A.under (.builtin "type.__call__" ⟨.ref C :: us,kw⟩)).units=A.units+1:=by
 first | rfl | simp [Around.under,Code.cUnits,Code.frames,Code.isFrame]
theorem kI.make (r:kI (k+1) A) (C:Addr) (us:List Value) (kw:List (Str×Value)):kI k (A.under (.builtin "type.__call__" ⟨.ref C :: us,kw⟩)) :=
 ⟨r.hd,by have:=r.dp;rw[HW];lia,by have:=r.un;rw[HV];lia⟩
theorem kI.depth (r:kI k A):A.depth < recursionLimit:=by have:=r.dp;lia
theorem kI.units (r:kI k A):A.units+64 < cLine:=by have:=r.un;lia
def DP:TA:=λ_ H Q=>Q [] H
def lY (ta:TE) (tr:TA):TA:=λσ H Q=>ta σ H λx H1=>tr σ H1 λxs H2=>Q (x :: xs) H2
section
variable {X:Cx} {e:Expr} {es:List Expr} {te:TE} {t:TA} {pos:Pos}
theorem ak:PA X [] DP:=λ_ _ _ _ H Q I h=>Calls.spliced_nil ⟨[],H,I,.nil,h⟩
theorem ae (ha:PE X e te) (hr:PA X es t) (hs:starEach (e :: es) X.env=(false,eval e X.env) :: starEach es X.env:=by rfl):PA X (e :: es) (lY te t):=by
 intro pos pins s σ H Q I h;rw[hs];show wpAny _ _ (spliced ((false,eval e X.env) :: backTo pos (starEach es X.env))) _ _ s
 refine Calls.spliced_cons (fY (ha pins s σ H _ I h) λu s1 ⟨x,H1,I1,r1,q1⟩=>?_);exact fY (hr pos pins s1 σ H1 _ I1 q1) λus s2 ⟨xs,H2,I2,r2,q2⟩=>⟨x :: xs,H2,I2,.cons r1 r2,q2⟩
def Ry (t:TA):TE:=λσ H Q=>t σ H λxs H1=>xs.length<=sizeLine/\∀p,H1 p=none->Q (.ref p) (upd H1 p (.tup xs))
def RJ (t:TA):TE:=λσ H Q=>t σ H λxs H1=>xs.length<=sizeLine/\∀p,H1 p=none->Q (.ref p) (upd H1 p (.lst xs))
theorem dg (h:PA X es t):PE X (.Tuple es x1 pos) (Ry t):=by
 intro pins s σ H Q I hq;refine wpAny_Tuple_spliced (fY (h pos pins s σ H _ I hq) λus s1 ⟨xs,H1,I1,r,z,q⟩=>⟨by rw[<- r.length];exact z,?_⟩);have hf:H1 s1.heap.objs.size=none:=I1.hok.fresh (aj _);refine ⟨.ref s1.heap.objs.size,upd H1 s1.heap.objs.size (.tup xs),I1.laid (t':=s1.toks) (λb u e=>Heap.get?_push_of_some _ e) (aj _) ?_,rfl,q _ hf⟩;exact ⟨z,us,r,⟨_,Heap.get?_push_size _ rfl,rfl,_,rfl⟩⟩
theorem dD (h:PA X es t):PE X (.List es pos) (RJ t):=by
 intro pins s σ H Q I hq;refine wpAny_List_spliced (fY (h pos pins s σ H _ I hq) λus s1 ⟨xs,H1,I1,r,z,q⟩=>⟨by rw[<- r.length];exact z,?_⟩);have hf:H1 s1.heap.objs.size=none:=I1.hok.fresh (aj _);refine ⟨.ref s1.heap.objs.size,upd H1 s1.heap.objs.size (.lst xs),I1.laid (t':=s1.toks) (λb u e=>Heap.get?_push_of_some _ e) (aj _) ?_,rfl,q _ hf⟩;exact ⟨z,us,0,r,Heap.get?_push_size _ rfl⟩
end
abbrev Sp:=List V->Hp->VK->XK->Prop
abbrev MH:=List Env->Hp->Shared->XK->Value->Shared->Prop
structure Iq (P:Program) (w:World) (K:FG9) (mg:Str->Option Value) (base:Heap) (A:Around) (outer:List Env) (s:Shared) (H:Hp):Prop where
 frames:A.frames=some outer
 mod:Mod K mg base
 bs:∀b o,base.get? b=some o->s.heap.get? b=some o/\H b=none
 bsz:base.objs.size<=s.heap.objs.size
 funs:s.heap.FunFrames base outer
 frf:∀b∈Kz outer,H b=none
 hok:Ab P w H s.heap
 bare:AllBare s.gens
def CE (outer:List Env) (P:Program) (w:World) (H:Hp) (s:Shared) (Q:VK) (u:Value) (s':Shared):Prop :=
 ∃v H',s'.os=s.os/\AllBare s'.gens/\Un (Kz outer) [] H H' s.heap s'.heap/\Ab P w H' s'.heap/\RelV v u/\Q v H'
def CR (CX:MH) (outer:List Env) (P:Program) (w:World) (H:Hp) (s:Shared) (Q:VK) (E:XK) (r:Result) (s':Shared):Prop :=
 match r with
 | .ok (.ret u)=>CE outer P w H s Q u s'
 | .ok _=>False
 | .error e=>CX outer H s E e s'
structure cK (P:Program) (w:World) (K:FG9) (mg:Str->Option Value) (base:Heap) (CX:MH) (k:Nat) (f:Addr) (fd:FuncData) (ps:List Str) (sp:Sp):Prop where
 len:∀vs H Q E,sp vs H Q E->vs.length=ps.length
 run:∀(A:Around) (outer:List Env) (s:Shared) (H:Hp) (args:Args) (us:List Value) (vs:List V) (Q:VK) (E:XK),kI k A->Iq P w K mg base A outer s H->BindsTo s fd args (ps.zip us)->cQ vs us->sp vs H Q E →
  codeAny (model P w) A (.call (.ref f) args) (CR CX outer P w H s Q E) s
theorem Iq.make {K:FG9} (e:Iq P w K mg base A outer s H) (C:Addr) (us:List Value) (kw:List (Str×Value)) :
  Iq P w K mg base (A.under (.builtin "type.__call__" ⟨.ref C :: us,kw⟩)) outer s H:=⟨by first | exact e.frames | (simpa [Around.under,Code.envs,Code.isFrame,pushEnvs] using e.frames),e.mod,e.bs,e.bsz,e.funs,e.frf,e.hok,e.bare⟩
section
variable {X:Cx} {pins:List (Addr×Obj)} {σ:St} {H:Hp} {s s':Shared}
theorem Inv.env0 (I:Inv X pins σ H s):Iq X.prog X.w X.K X.mg X.base X.A X.stack s H :=
 ⟨I.ok.frames,I.ok.mod,I.bs,ai I.ok.bsz I.sz,I.stack,I.stkFree,I.hok,I.bare⟩
theorem Inv.after (I:Inv X pins σ H s) (h:CE X.stack X.prog X.w H s Q u s'):EP X pins σ Q u s':=by
 obtain ⟨v,H',os,bare,un,hok,r,q⟩:=h;obtain ⟨hh,g,d,t,os'⟩:=s';obtain rfl:os'=s.os:=os;exact ⟨v,H',I.call (h':=hh) (g':=g) (d':=d) (t':=t) (ch:=[]) un hok bare (λb z=>absurd z (by simp)),r,q⟩
end
def KS (sp:Sp) (dvs:List V) (E:XK) (t:TA):TE:=λσ H Q=>t σ H λvs H1=>sp (vs++dvs) H1 Q E
def OF (C:Addr) (m:Str) (sp:Sp) (dvs:List V) (E:XK) (ta:TE) (t:TA):TE:=λσ H Q=>ta σ H λx H1=>∃a dx fs,x=.ref a/\H1 a=some (.ins C dx fs)/\fs.lookup m=none /\
 t σ H1 λvs H2=>sp (x :: (vs++dvs)) H2 Q E
def OG (C:Addr) (sp:Sp) (dvs:List V) (E:XK) (t:TA):TE:=λσ H Q=>t σ H λvs H1=>∀x dx,H1 x=none->H1 dx=none->dx≠x →
 sp (.ref x :: (vs++dvs)) (upd (upd H1 dx (.own x)) x (.ins C dx [])) (λv H2=>v=.non/\Q (.ref x) H2) E
def Binds (K:FG9) (fd:FuncData) (ps:List Str) (ds:List Value):Prop :=
 ∀(s:Shared) (us:List Value),K.In s.heap->(us++ds).length=ps.length->BindsTo s fd ⟨us,[]⟩ (ps.zip (us++ds))
theorem Binds.all {K:FG9} (h:∀us:List Value,us.length=ps.length->bindArgs fd ⟨us,[]⟩=pure (ps.zip us)):Binds K fd ps []:=λs us _ hl=>by
 rw[qS] at hl ⊢;exact .of_eq (h us hl)
def yC (CX:MH) (X:Cx) (E:XK):Prop:=∀(pins:List (Addr×Obj)) (σ:St) (H:Hp) (s:Shared) (e:Value) (s':Shared),Inv X pins σ H s->CX X.stack H s E e s'->X.xe e s'
section
variable {X:Cx} {CX:MH} {k:Nat} {f C:Addr} {fd:FuncData} {ps:List Str} {sp:Sp} {dvs:List V} {ds:List Value} {E:XK} {x m:Str} {p pos apos:Pos} {e o:Expr} {es:List Expr} {ta:TE} {t:TA}
theorem Le {σ:St} (F:cK X.prog X.w X.K X.mg X.base CX k f fd ps sp) (hr:kI k X.A) (hb:Binds X.K fd ps ds) (hd:cQ dvs ds) (hx:yC CX X E)
  (I:Inv X pins σ H s) (r:cQ vs us) (h:sp (vs++dvs) H Q E):wpAny (model X.prog X.w) X.A (call (.ref f) us) (EP X pins σ Q) X.xe s:=by
 have r2:cQ (vs++dvs) (us++ds):=r.append hd;have hl:(us++ds).length=ps.length:=by rw[<- r2.length];exact F.len _ _ _ _ h
 refine wpAny_call (codeAny_mono (F.run X.A X.stack s H ⟨us,[]⟩ (us++ds) (vs++dvs) Q E hr I.env0 (hb s us I.kIn hl) r2 h) λr s' hq=>?_);cases r with
 | error e=>exact hx pins σ H s e s' I hq
 | ok fl =>
  cases fl with
  | ret u=>exact I.after hq
  | next=>exact False.elim hq
  | brk=>exact False.elim hq
  | cont=>exact False.elim hq
theorem NR (F:cK X.prog X.w X.K X.mg X.base CX k f fd ps sp) (hr:kI k X.A) (hg:Gl X x) (hm:X.mg x=some (.ref f)) (hk:PySem.W.keepIn X.K (.ref f)=true) (hb:Binds X.K fd ps ds) (hd:cQ dvs ds) (hx:yC CX X E)
  (ha:PA X (e :: es) t) (hdb:(x == ("__debug__":Str))=false:=by decide) (he:starEach (e :: es) X.env=(false,eval e X.env) :: starEach es X.env:=by rfl) (hpl:(backTo pos (starEach es X.env)).any (·.1)=false:=by rfl) :
  PE X (.Call (.Name x p) (e :: es) [] pos) (KS sp dvs E t):=by
 intro pins s σ H Q I h;refine wpAny_Call_Name_kw (EI I hg hm ?_ hdb);refine PySem.W.callWith_K (h₀:=X.base) I.ok.mod.kin hk (fY (ha pos pins s σ H _ I h) λus s1 ⟨vs,H1,I1,r,q⟩=>⟨I1.kIn,?_⟩) he hpl;exact Le F hr hb hd hx I1 r q
theorem Lu {pl : Sem Bool} (he : PE X o ta) (c : KC X.K C) (hm : QY X.K C m f) (F : cK X.prog X.w X.K X.mg X.base CX k f fd ps sp) (hr : kI k X.A) (hb : Binds X.K fd ps ds) (hd : cQ dvs ds) (hx : yC CX X E)
    (ht : eval (.Call (.Attribute o m apos) [] [] pos) X.env = (do
      let ov <- eval o X.env
      standAt apos.atName
      let (f, first) <- holding [ov] (getMethod ov m pl)
      callWith pos f first (backTo pos (starEach [] X.env)) (backToKw pos (keywordEach [] X.env))) := by rfl) :
    PE X (.Call (.Attribute o m apos) [] [] pos) (OF C m sp dvs E ta DP) := by
  intro pins s σ H Q I h;refine PySem.W.methodCall_KW (pl := pl) (fY (he pins s σ H _ I h) λu s1 ⟨x, H1, I1, rx, a, dx, fs, ex, ea, l, q⟩ => ?_) ht;subst ex;obtain rfl : u = Value.ref a := rx;refine Ia I1 ea c hm l ?_;exact PySem.W.callWith_K0 (first := [.ref a]) I1.kIn hm.kp (Le (us := [.ref a]) (vs := [.ref a]) F hr hb hd hx I1 (.cons rfl .nil) q)

structure Mk (K:FG9) (C f:Addr):Prop where
 makes:PySem.W.makesIn K C=true
 init:PySem.W.findIn K (.ref C) "__init__"=some (some (.ref f))
 fn:PySem.W.isFn K (.ref f)=true
 kp:PySem.W.keepIn K (.ref C)=true
theorem Ld {σ:St} (M:Mk X.K C f) (F:cK X.prog X.w X.K X.mg X.base CX k f fd ps sp) (hr:kI (k+1) X.A) (hb:Binds X.K fd ps ds) (hd:cQ dvs ds)
  (hx:yC CX X E) (I:Inv X pins σ H s) (r:cQ vs us)
  (h:∀x dx,H x=none->H dx=none->dx≠x->sp (.ref x :: (vs++dvs)) (upd (upd H dx (.own x)) x (.ins C dx [])) (λv H2=>v=.non/\Q (.ref x) H2) E) :
  wpAny (model X.prog X.w) X.A (call (.ref C) us) (EP X pins σ Q) X.xe s:=by
 have hq:=h (s.heap.objs.size+1) s.heap.objs.size (I.hok.fresh (mM _)) (I.hok.fresh (aj _)) (cU (eH _));have I2:=Inv.made (C:=C) I;have r2:cQ (V.ref (s.heap.objs.size+1) :: (vs++dvs)) (Value.ref (s.heap.objs.size+1) :: (us++ds)):=.cons rfl (r.append hd)
 have hl:(Value.ref (s.heap.objs.size+1) :: us++ds).length=ps.length:=by
  have e:=r2.length;rw[F.len _ _ _ _ hq] at e;exact e.symm
 refine wpAny_call (LP (f:=f) I.kIn M.makes M.init (beq_iff_eq.mp M.fn) (codeAny_mono (F.run _ X.stack _ _ ⟨Value.ref (s.heap.objs.size+1) :: us,[]⟩ (Value.ref (s.heap.objs.size+1) :: (us++ds)) _ _ E (hr.make C us [])
  (I2.env0.make C us []) (hb _ (Value.ref (s.heap.objs.size+1) :: us) I2.kIn hl) r2 hq) λr s' hq'=>?_))
 cases r with
 | error e=>exact hx pins σ _ _ e s' I2 hq'
 | ok fl =>
  cases fl with
  | ret u =>
   obtain ⟨v,H',I3,rv,ev,q3⟩:=I2.after hq';subst ev;exact ⟨rv,⟨V.ref (s.heap.objs.size+1),H',I3,rfl,q3⟩⟩
  | next=>exact False.elim hq'
  | brk=>exact False.elim hq'
  | cont=>exact False.elim hq'
theorem zZ (M:Mk X.K C f) (F:cK X.prog X.w X.K X.mg X.base CX k f fd ps sp) (hr:kI (k+1) X.A) (hg:Gl X x) (hm:X.mg x=some (.ref C)) (hb:Binds X.K fd ps ds) (hd:cQ dvs ds) (hx:yC CX X E)
  (ha:PA X (e :: es) t) (hdb:(x == ("__debug__":Str))=false:=by decide) (he:starEach (e :: es) X.env=(false,eval e X.env) :: starEach es X.env:=by rfl) (hpl:(backTo pos (starEach es X.env)).any (·.1)=false:=by rfl) :
  PE X (.Call (.Name x p) (e :: es) [] pos) (OG C sp dvs E t):=by
 intro pins s σ H Q I h;refine wpAny_Call_Name_kw (EI I hg hm ?_ hdb);refine PySem.W.callWith_K (h₀:=X.base) I.ok.mod.kin M.kp (fY (ha pos pins s σ H _ I h) λus s1 ⟨vs,H1,I1,r,q⟩=>⟨I1.kIn,?_⟩) he hpl;exact Ld M F hr hb hd hx I1 r q
end
structure aV (N P:List Str) (sc:Scope):Prop where
 kind:sc.kind=.function
 co:sc.isCoroutine=false
 gen:sc.isGenerator=false
 nd:N.Nodup
 pre:N.take P.length=P
 par:∀x∈P,sc.names.lookup x=some .local\/sc.names.lookup x=some .cell
 nofree:∀y∈sc.names,y.2≠.free
theorem Di {kindOf:Str->Option NameKind} {x:Str}:∀{binds:List (Str×Value)} {m:Str->Option Value},(∀v,(x,v)∉binds)->bindL kindOf binds m x=m x
 | [],_,_=>rfl
 | (n,v) :: r,m,h=>by
  unfold bindL;rw[Di λw hw=>h w (ck _ hw)]
  split
  ·have:x≠n:=by rintro rfl;exact h v dt
   simp [this]
  ·rfl
theorem Dk {kindOf:Str->Option NameKind} {x:Str}:∀{binds:List (Str×Value)} {m:Str->Option Value},(∀v,(x,v)∉binds)->bindC kindOf binds m x=m x
 | [],_,_=>rfl
 | (n,v) :: r,m,h=>by
  unfold bindC;rw[Dk λw hw=>h w (ck _ hw)]
  split
  ·rfl
  ·have:x≠n:=by rintro rfl;exact h v dt
   simp [this]
theorem Dj {kindOf:Str->Option NameKind} {x:Str} {v:Value}:∀{P:List Str} {vs:List Value} {i:Nat} {m:Str->Option Value},P.Nodup->P[i]?=some x->vs[i]?=some v->kindOf x=some .local →
  bindL kindOf (P.zip vs) m x=some v
 | [],_,_,_,_,h,_,_=>by simp at h
 | _ :: _,[],_,_,_,_,h,_=>by simp at h
 | p :: P,w :: vs,0,m,nd,h1,h2,hk=>by
  simp at h1 h2;subst h1;subst h2;show bindL kindOf ((p,w) :: P.zip vs) m p=_
  unfold bindL;rw[Di λv hv=>(d9.mp nd).1 (MQ hv).1,if_pos hk];simp
 | p :: P,w :: vs,i+1,m,nd,h1,h2,hk=>by
  show bindL kindOf ((p,w) :: P.zip vs) m x=_
  unfold bindL;exact Dj (i:=i) (d9.mp nd).2 (by simpa using h1) (by simpa using h2) hk
theorem Dl {kindOf:Str->Option NameKind} {x:Str} {v:Value}:∀{P:List Str} {vs:List Value} {i:Nat} {m:Str->Option Value},P.Nodup->P[i]?=some x->vs[i]?=some v->kindOf x≠some .local →
  bindC kindOf (P.zip vs) m x=some v
 | [],_,_,_,_,h,_,_=>by simp at h
 | _ :: _,[],_,_,_,_,h,_=>by simp at h
 | p :: P,w :: vs,0,m,nd,h1,h2,hk=>by
  simp at h1 h2;subst h1;subst h2;show bindC kindOf ((p,w) :: P.zip vs) m p=_
  unfold bindC;rw[Dk λv hv=>(d9.mp nd).1 (MQ hv).1,if_neg hk];simp
 | p :: P,w :: vs,i+1,m,nd,h1,h2,hk=>by
  show bindC kindOf ((p,w) :: P.zip vs) m x=_
  unfold bindC;exact Dl (i:=i) (d9.mp nd).2 (by simpa using h1) (by simpa using h2) hk
def start (N:List Str) (vs:List V):St:=vs.map some++List.replicate (N.length - vs.length) none
def Ks (CX:MH) (P:Program) (w:World) (K:FG9) (mg:Str->Option Value) (base:Heap) (N:List Str) (qual:Str) (scope:Scope) (f:Addr) (cd:Value) (A:Around) (outer:List Env) (s:Shared) (H:Hp) (E:XK):Cx where
 prog:=P
 w:=w
 K:=K
 mg:=mg
 base:=base
 A:=A.deeper (envOfC qual scope s.heap.objs.size f cd)
 N:=N
 s₀:=s
 H₀:=H
 env:=envOfC qual scope s.heap.objs.size f cd
 outer:=outer
 stack:=envOfC qual scope s.heap.objs.size f cd :: outer
 ex:=[]
 calm:=true
 fn:=λ_=>true
 pn:=[]
 xe:=λe s'=>wpAny (model P w) (A.deeper (envOfC qual scope s.heap.objs.size f cd)) (leaving (envOfC qual scope s.heap.objs.size f cd) e) (λ_ s''=>CX outer H s E e s'') (λe' s''=>CX outer H s E e' s'') s'
theorem GC {sc:Scope} (h:sc.names.lookup x=some .cell):∃c,(cellsFrom n sc.names []).lookup x=some c:=by
 have q:=Ac sc.names n [] (.inl h);exact Rj.mp q
theorem Km {K:FG9} 
  (S:aV N ps scope) (hd:A.handled=none) (e0:Iq P w K mg base A outer s H) (hl:vs.length=ps.length) (r:cQ vs us)
  (x:InCallC s s.heap.objs.size (bindL (envOfC qual scope s.heap.objs.size f cd).kindOf (ps.zip us) λ_=>none) (cellsFrom (s.heap.objs.size+1) scope.names []) (bindC (envOfC qual scope s.heap.objs.size f cd).kindOf (ps.zip us) λ_=>none) s1) :
  Inv (Ks CX P w K mg base N qual scope f cd A outer s H E) [] (start N vs) H s1:=by
 have hpl:ps.length<=N.length:=by have:=congrArg List.length S.pre;rw[aR] at this;lia
 obtain ⟨h1,tk,rfl,hk⟩:=x.done;have noA:∀b:Addr,b∉(Ks CX P w K mg base N qual scope f cd A outer s H E).ex:=λb z=>absurd (show b∈([]:List Addr) from z) (by simp)
 refine ⟨⟨e0.mod,S.kind,rfl,rfl,aj _,λy z c h1 h2=>?_,λy hy=>?_,λy c _ h=>?_,λ_=>hd,Around.frames_deeper e0.frames,.inr ⟨rfl,rfl⟩,λb z=>absurd z (noA b),e0.bs,e0.bsz,λb _ _=>noA b,λb z=>absurd z (noA b),e0.funs,e0.frf⟩,
  rfl,e0.bare,Un.kept hk,⟨_,x.toInCall.ns,λi y v h1 h2 h3=>?_⟩,λy c h=>⟨_,x.cell y c h⟩,e0.hok.fresh (aj _),λy c h=>?_,λp hp=>absurd (show p∈([]:List (Addr×Obj)) from hp) (by simp),e0.hok.kept hk,?_⟩
 ·exact name_of_addr x.apart (kj h1) (kj h2)
 ·have hy:scope.names.lookup y=some .cell\/scope.names.lookup y=some .free:=hy;rcases hy with hy | hy
  ·exact GC hy
  ·exact absurd rfl (S.nofree _ (kj hy))
 ·exact aT (x.above y c (kj h))
 ·have hi:i < vs.length:=by
   unfold start at h2;by_cases hi:i < vs.length
   ·exact hi
   ·rw[bW (by simpa using hi)] at h2;rw[dq] at h2
    split at h2 <;> cases h2
  have ha:vs[i]?=some v:=by
   unfold start at h2;rw[cx (by simpa using hi),aD] at h2;cases e:vs[i]? with
   | none=>rw[e] at h2;cases h2
   | some a=>rw[e] at h2;cases h2;rfl
  obtain ⟨u,hu,rv⟩:=r.get ha
  have hp:ps[i]?=some y:=by
   rw[<- S.pre,eQ (by lia)];exact h1
  have ndP:ps.Nodup:=by rw[<- S.pre];exact S.nd.sublist (List.take_sublist _ _)
  refine ⟨u,rv,?_⟩;rcases S.par y (ar hp) with k | k
  ·exact .inl ⟨k,Dj ndP hp hu k⟩
  ·obtain ⟨c,e⟩:=GC (n:=s.heap.objs.size+1) k;refine .inr ⟨.inl k,c,e,?_⟩;have q:=x.cell y c e;rw[Dl ndP hp hu (by show scope.names.lookup y≠_;rw[k];decide)] at q;exact q
 ·exact e0.hok.fresh (aT (x.above y c (kj h)))
 ·unfold start;show _=N.length
  rw[av,ag,bw]
  lia
theorem SE {K:FG9} {dV kV doc pm cdv ct oc:Value} 
 (lk:K.lookup f=some ⟨oc,od,.func (PySem.W.fnOf name qual params body scope dV kV doc pm an cdv ct),osl⟩) (hcd:PySem.W.codeIn K cdv qual=true) (S:aV N ps scope)
  (len:∀vs H Q E,sp vs H Q E->vs.length=ps.length)
  (hbody:∀(A:Around) (outer:List Env) (s:Shared) (H:Hp) (vs:List V) (Q:VK) (E:XK),kI k (A.deeper (envOfC qual scope s.heap.objs.size f cdv))->sp vs H Q E →
   ∃t,Io (Ks CX P w K mg base N qual scope f cdv A outer s H E) body t/\t { nx:=λ_ H'=>Q .non H',rt:=Q } (start N vs) H) :
  cK P w K mg base CX (k+1) f (PySem.W.fnOf name qual params body scope dV kV doc pm an cdv ct) ps sp:=by
 refine ⟨len,λA outer s H args us vs Q E hr e0 hb r hsp=>?_⟩;have hl:=len _ _ _ _ hsp;have KX:K.In s.heap:=e0.mod.kin.keeps λb o e=>(e0.bs b o e).1
 have lim:s.heap.NoLimit:=e0.mod.nolimit.keeps λb o e=>(e0.bs b o e).1
 have hkind:∀y∈ps.zip us,scope.names.lookup y.1=some .local\/(scope.names.lookup y.1=some .cell/\((cellsFrom (s.heap.objs.size+1) scope.names []).lookup y.1).isSome=true):=λ⟨n,v⟩ hy=>by
  rcases S.par n (MQ hy).1 with q | q
  ·exact .inl q
  ·exact .inr ⟨q,Ac _ _ _ (.inl q)⟩
 refine codeAny_call_function hr.depth (KX _ _ lk) rfl S.co S.gen rfl (PySem.W.codeRec_of KX hcd) (hb _ _ _ _ ?_);refine wpAny_newFunctionEnv_cells S.kind hkind λenv he s1 x=>?_
 subst he;refine ⟨lim.keeps x.toInCall.keep,codeAny_func ?_⟩;obtain ⟨t,ht,hq⟩:=hbody A outer s H vs Q E (hr.deeper _) hsp;have I:Inv (Ks CX P w K mg base N qual scope f cdv A outer s H E) [] (start N vs) H s1:=Km S hr.hd e0 hl r x;refine wpAny_mono (ht [] s1 (start N vs) H _ I hq) (λfl s' hs=>?_) λe s' hs=>hs
 have fin:∀{σ':St} {H':Hp} {v:V} {u:Value},Inv (Ks CX P w K mg base N qual scope f cdv A outer s H E) [] σ' H' s'->RelV v u->Q v H'->CE outer P w H s Q u s' :=
  λ{σ' H' v u} J rv q=>⟨v,H',J.os,J.bare,J.base,J.hok,rv,q⟩
 cases fl with
 | ret u =>
  obtain ⟨v,σ',H',J,rv,q⟩:=hs;exact fin J rv q
 | next =>
  obtain ⟨σ',H',J,q⟩:=hs;exact fin (v:=V.non) (u:=Value.none) J rfl q
 | brk =>
  obtain ⟨_,_,_,q⟩:=hs;exact False.elim q
 | cont =>
  obtain ⟨_,_,_,q⟩:=hs;exact False.elim q
section
variable {X:Cx} {x:Str} {p pos:Pos} {e:Expr} {es:List Expr} {t:TA} {id T:String} {r:List V->Hp->VK->Prop}
def Td (r:List V->Hp->VK->Prop) (t:TA):TE:=λσ H Q=>t σ H λvs H1=>r vs H1 Q
theorem bK (hc:oP X (.builtin id) r) (hg:Gl X x) (hm:X.mg x=none) (hv:bootBuiltins x=some (.builtin id)) (ha:PA X (e :: es) t) (hn:x≠"__name__":=by decide) (hdb:(x == ("__debug__":Str))=false:=by decide)
  (he:starEach (e :: es) X.env=(false,eval e X.env) :: starEach es X.env:=by rfl) (hpl:(backTo pos (starEach es X.env)).any (·.1)=false:=by rfl):PE X (.Call (.Name x p) (e :: es) [] pos) (Td r t):=by
 intro pins s σ H Q I h;refine wpAny_Call_Name_kw (jo I hg hm hv ?_ hn hdb);exact PyProof.Rows.callWith_builtin1 (fY (ha pos pins s σ H _ I h) λus s1 ⟨vs,H1,I1,r1,q1⟩=>hc pins s1 σ H1 vs us Q I1 r1 q1) he hpl
theorem fH (hc:oP X (.type T) r) (hg:Gl X x) (hm:X.mg x=none) (hv:bootBuiltins x=some (.type T)) (ha:PA X (e :: es) t) (hn:x≠"__name__":=by decide) (hdb:(x == ("__debug__":Str))=false:=by decide)
  (he:starEach (e :: es) X.env=(false,eval e X.env) :: starEach es X.env:=by rfl) (hpl:(backTo pos (starEach es X.env)).any (·.1)=false:=by rfl):PE X (.Call (.Name x p) (e :: es) [] pos) (Td r t):=by
 intro pins s σ H Q I h;refine wpAny_Call_Name_kw (jo I hg hm hv ?_ hn hdb);exact PyProof.Rows.callWith_type1 (fY (ha pos pins s σ H _ I h) λus s1 ⟨vs,H1,I1,r1,q1⟩=>hc pins s1 σ H1 vs us Q I1 r1 q1) he hpl
end
end L2
namespace HT
open PySem PyProof.Rows
section
open PySem.SeqAt
open PySem.AutoSeq1 (wpAny_loadPart')
open PySem.MeetsSeq PySem.MeetsSeq2 PySem.MeetsSeq3
end
section
variable {prog:Program} {w:World} {A:Around} {E:Value->Shared->Prop} {s:Shared}
def FR (n d:Nat):Option Int->Nat
 | none=>d
 | some v=>if v < 0 then (v+(n:Int)).toNat else min v.toNat n
theorem Ax (n d:Nat):FR n d none=d:=rfl
theorem Ek (n d k:Nat):FR n d (some (k:Int))=min k n:=by
 show (if (k:Int) < 0 then ((k:Int)+(n:Int)).toNat else min (k:Int).toNat n)=min k n
 rw[if_neg (by lia),Int.toNat_natCast]
end
end HT
namespace L2
open PySem PySem.Spec PyProof.Rows
abbrev TO:=St->Hp->(Option Int->Hp->Prop)->Prop
def PO (X:Cx) (e:Option Expr) (t:TO):Prop :=
 ∀(pins:List (Addr×Obj)) (s:Shared) (σ:St) (H:Hp) (Q:Option Int->Hp->Prop),Inv X pins σ H s->t σ H Q →
  wpAny (model X.prog X.w) X.A (evalPart e X.env) (λu s'=>∃o H',Inv X pins σ H' s'/\IsPart u o/\Q o H') X.xe s
def Iv:TO:=λ_ H Q=>Q none H
def OC (t:TE):TO:=λσ H Q=>t σ H λx H1=>∃i,x=.int i/\Q (some i) H1
theorem intsAre_of:∀{us:List Value},cQ (ns.map V.int) us->IntsAre us ns:=by
 induction ns with
 | nil=>intro us r;rw[List.map_nil] at r;cases r;exact .nil
 | cons n ns ih =>
  intro us r;rw[gN] at r;cases r with
  | cons r1 r2 =>
   obtain ⟨t,e⟩:=r1;subst e;exact .cons n t (ih r2)
section
variable {X:Cx} {e:Expr} {te:TE} {lo hi:Option Expr} {tl th:TO} {pos p2:Pos}
theorem kU:PO X none Iv:=by
 intro pins s σ H Q I h;rw[evalPart_none];exact wpAny_pure ⟨none,H,I,.none,h⟩
theorem kT (h:PE X e te):PO X (some e) (OC te):=by
 intro pins s σ H Q I hw;rw[evalPart_some];refine fY (h pins s σ H _ I hw) λu s1 ⟨x,H1,I1,r1,q1⟩=>?_
 obtain ⟨i,rfl,q⟩:=q1;obtain ⟨t,rfl⟩:=r1;exact ⟨some i,H1,I1,.int i t,q⟩
def Tu (X:Cx) (r:V->Option Int->Option Int->Hp->VK->Prop):Prop :=
 ∀(pins:List (Addr×Obj)) (s:Shared) (σ:St) (H:Hp) (x:V) (v vl vu:Value) (lo hi:Option Int) (sl:Addr) (Q:VK),Inv X pins σ H s->RelV x v->s.heap.IsSliceOf sl vl vu .none->IsPart vl lo->IsPart vu hi->r x lo hi H Q →
  ∃T id,typeLookup (.type T) "__getitem__"=pure (some (.builtin id))/\s.TypeIs v T/\wpAny (model X.prog X.w) X.A (getItem v (.ref sl)) (EP X pins σ Q) X.xe s
def tSl (r:V->Option Int->Option Int->Hp->VK->Prop) (te:TE) (tl th:TO):TE:=λσ H Q=>te σ H λx H1=>tl σ H1 λl H2=>th σ H2 λu H3=>r x l u H3 Q
theorem jb (hr:Tu X r) (he:PE X e te) (hl:PO X lo tl) (hu:PO X hi th):PE X (.Subscript e (.Slice lo hi none p2) pos) (tSl r te tl th):=by
 intro pins s σ H Q I h;refine Subscript_ (fY (he pins s σ H _ I h) λv s1 ⟨x,H1,I1,r1,q1⟩=>?_);refine wpAny_Slice (fY (hl pins s1 σ H1 _ I1 q1) λvl s2 ⟨l,H2,I2,pl,q2⟩=>fY (hu pins s2 σ H2 _ I2 q2) λvu s3 ⟨u,H3,I3,pu,q3⟩=>?_);rw[evalPart_none];refine wpAny_pure ?_;have I4:Inv X pins σ H3 { s3 with heap:=s3.heap.push { cls:=.type "slice",data:=.fields #[vl,vu,.none] } }:=I3.kept (t':=s3.toks) λb ob q=>Heap.get?_push_of_some _ q
 obtain ⟨T,id,hT,ht,hg⟩:=hr pins { s3 with heap:=s3.heap.push { cls:=.type "slice",data:=.fields #[vl,vu,.none] } } σ H3 x v vl vu l u s3.heap.objs.size Q I4 r1 (Heap.IsSliceOf.new ..) pl pu q3;show wpAny (model X.prog X.w) X.A (subscriptTail e (.Slice lo hi none p2) v (.ref s3.heap.objs.size)) (EP X pins σ Q) X.xe { s3 with heap:=s3.heap.push { cls:=.type "slice",data:=.fields #[vl,vu,.none] } }
 exact tail_any (ops:=[.ref s3.heap.objs.size,v]) ht hT hg (by with_unfolding_all rfl)
def tx (xs:List V) (lo hi:Option Int):List V:=(xs.drop (HT.FR xs.length 0 lo)).take (HT.FR xs.length xs.length hi - HT.FR xs.length 0 lo)
theorem ze (xs:List V) (lo hi:Option Int):(tx xs lo hi).length<=xs.length:=by
 unfold tx;rw[aR,zJ]
 lia
end
def Ky (n:Nat) (i:Int):Option Nat:=if 0<=i then (if i < n then some i.toNat else none) else if -(n:Int)<=i then some (i+n).toNat else none
def Ii {α:Type} (xs:List α) (i:Int):Option α:=(Ky xs.length i).bind λj=>xs[j]?
theorem Jm (h:Ky n i=some j):seqIndex? i n=some j/\j < n/\-(n:Int)<=i/\i < n:=by
 unfold Ky at h;by_cases h0:0<=i
 ·rw[if_pos h0] at h;by_cases h1:i < n
  ·rw[if_pos h1] at h;have e:i.toNat=j:=cv h;exact ⟨by rw[seqIndex_of h0 h1,e],by lia,by lia,h1⟩
  ·rw[if_neg h1] at h;cases h
 ·rw[if_neg h0] at h;by_cases h1:-(n:Int)<=i
  ·rw[if_pos h1] at h;have e:(i+n).toNat=j:=cv h;exact ⟨by rw[seqIndex_neg (by lia) h1,e],by lia,h1,by lia⟩
  ·rw[if_neg h1] at h;cases h
theorem E6 {xs:List α} {v:α} (h:Ii xs i=some v):∃j,seqIndex? i xs.length=some j/\xs[j]?=some v/\j < xs.length/\-(xs.length:Int)<=i/\i < xs.length:=by
 unfold Ii at h;cases e:Ky xs.length i with
 | none=>rw[e] at h;cases h
 | some j =>
  rw[e] at h;obtain ⟨h1,h2,h3,h4⟩:=Jm e;exact ⟨j,h1,h,h2,h3,h4⟩
theorem dG {xs:List α} {j:Nat} {v:α} (h:xs[j]?=some v):Ii xs (j:Int)=some v:=by
 have hj:j < xs.length:=(aF.mp h).1
 have e:Ky xs.length (j:Int)=some j:=by
  unfold Ky;rw[if_pos (by lia),if_pos (by lia)];simp
 unfold Ii;rw[e];exact h
theorem By (xs:List α) (v:α):Ii (xs++[v]) (-1)=some v:=by
 have hl:(xs++[v]).length=xs.length+1:=by simp
 have e:Ky (xs++[v]).length (-1)=some xs.length:=by
  unfold Ky;rw[hl,if_neg (by decide),if_pos (by lia)];congr 1
  lia
 unfold Ii;rw[e];show (xs++[v])[xs.length]?=some v
 simp
def Oq (b:Expr):Prop:=∀o i,subscripted b false o i=operate [o,i] (getItem o i)
def SQ (X:Cx) (r:R2):Prop :=
 ∀(value slice:Expr) (pins:List (Addr×Obj)) (s:Shared) (σ:St) (H:Hp) (x y:V) (v u:Value) (Q:VK),Inv X pins σ H s->RelV x v->RelV y u->r x y H Q →
  subscripted slice false v u=operate [v,u] (getItem v u)->wpAny (model X.prog X.w) X.A (subscriptTail value slice v u) (EP X pins σ Q) X.xe s
def MtR (X:Cx) (id:String) (r:V->List V->Hp->VK->Prop):Prop :=
 ∀(pins:List (Addr×Obj)) (s:Shared) (σ:St) (H:Hp) (x:V) (xs:List V) (v:Value) (us:List Value) (Q:VK),Inv X pins σ H s->RelV x v->cQ xs us->r x xs H Q →
  wpAny (model X.prog X.w) X.A (call (.builtin id) (v :: us)) (EP X pins σ Q) X.xe s
section
variable {X:Cx} {a b:Expr} {ta tb:TE} {pos:Pos}
theorem aX {r:R2} (hr:SQ X r) (ha:PE X a ta) (hb:PE X b tb) (hs:Oq b:=by intro _ _;rfl):PE X (.Subscript a b pos) (RH r ta tb):=by
 intro pins s σ H Q I h;exact Subscript_ (QT ha hb I h λv u s2 x y H2 I2 rx ry q=>hr a b pins s2 σ H2 x y v u Q I2 rx ry q (hs _ _))
def Qj (K:FG9):R2:=λx y H Q=>∃p xs i v,x=.ref p/\y=.int i/\bU K H p xs/\Ii xs i=some v/\Q v H
def Qi (K:FG9):R2:=λx y H Q=>∃p xs i v,x=.ref p/\y=.int i/\mP K H p xs/\Ii xs i=some v/\Q v H
theorem bZ:SQ X (Qj X.K):=by
 intro value slice pins s σ H x y v u Q I rx ry h hs;obtain ⟨p,xs,i,z,rfl,rfl,hq,he,q⟩:=h;cases rx;obtain ⟨t,rfl⟩:=ry;obtain ⟨its,r,pl,hz⟩:=I.list hq;obtain ⟨j,h1,h2,h3,h4,h5⟩:=E6 he;obtain ⟨w,ew,rw'⟩:=r.get h2;have hl:=r.length;have hn:=A4;have fin:EP X pins σ Q w s:=⟨z,H,I,rw',q⟩;by_cases h0:0<=i
 ·have hj:i.toNat=j:=by
   rw[seqIndex_of h0 h5] at h1;exact cv h1
  exact item_listR pl.isList h0 (by lia) (by rw[hj];simpa using ew) fin hs
 ·have hj:(i+(its.toArray.size:Int)).toNat=j:=by
   rw[seqIndex_neg (by lia) h4] at h1;rw[aQ,<- hl];exact cv h1
  exact subscriptTail_builtinR (x:=w) pl.isList.typeIs slot_list_getitem.lookup
   (wpAny_getItem_list_neg (Q:=λr s'=>r=w/\EP X pins σ Q r s') pl.isList (by lia) (by rw[aQ] <;> lia) (by lia) (by rw[hj];simpa using ew) ⟨rfl,fin⟩) hs
theorem bY:SQ X (Qi X.K):=by
 intro value slice pins s σ H x y v u Q I rx ry h hs;obtain ⟨p,xs,i,z,rfl,rfl,hq,he,q⟩:=h;cases rx;obtain ⟨t,rfl⟩:=ry;obtain ⟨its,r,pl,hz⟩:=I.tuple hq;obtain ⟨j,h1,h2,h3,h4,h5⟩:=E6 he;obtain ⟨w,ew,rw'⟩:=r.get h2;have hl:=r.length;have hn:=A4;have fin:EP X pins σ Q w s:=⟨z,H,I,rw',q⟩
 exact subscriptTail_builtinR (x:=w) pl.typeIs slot_tuple_getitem.lookup
  (getItem_tuple (j:=j) (Q:=λr s'=>r=w/\EP X pins σ Q r s') pl (by lia) (by lia) (by rw[aQ,<- hl];exact h1) (by simpa using ew) ⟨rfl,fin⟩) hs
theorem HU (its:List Value) (n j:Nat) (u:Value):Obj.mapSeq (·.setIfInBounds j u) { cls:=.type "list",data:=.seq its.toArray n }={ cls:=.type "list",data:=.seq (its.set j u).toArray n }:=by
 simp [Obj.mapSeq]
theorem Inv.lst {pins:List (Addr×Obj)} {σ:St} {H:Hp} {s:Shared} {p:Addr} {xs:List V} (I:Inv X pins σ H s) (h:H p=some (.lst xs)) :
  ∃(its:List Value) (n:Nat),cQ xs its/\s.heap.get? p=some { cls:=.type "list",data:=.seq its.toArray n }/\xs.length<=sizeLine:=by
 obtain ⟨z,its,n,r,e⟩:=I.hok p _ h;exact ⟨its,n,r,e,z⟩
theorem Inv.lstUpd {σ:St} {its its':List Value} (I:Inv X pins σ H s) (h:H p=some (.lst xs))
  (ho:s.heap.get? p=some { cls:=.type "list",data:=.seq its.toArray n }) (hf:f { cls:=.type "list",data:=.seq its.toArray n }={ cls:=.type "list",data:=.seq its'.toArray n' }) (r:cQ ys its') (hz:ys.length<=sizeLine) (t:Nat) :
  Inv X pins σ (upd H p (.lst ys)) { s with heap:=s.heap.update p f,toks:=t }:=by
 have e:(s.heap.update p f).get? p=some { cls:=.type "list",data:=.seq its'.toArray n' }:=by
  rw[Heap.get?_update_self f ho (by rw[hf] <;> rfl),hf]
 refine I.write (x:=p) (e:=p) (by rw[h];trivial) (.inl rfl) (λb u hb q=>(Heap.get?_update_other _ _ (Ne.symm hb)).trans q) ⟨_,e⟩ ?_;exact ⟨hz,its',n',r,e⟩
def OQ:V->V->V->Hp->(Hp->Prop)->Prop:=λo i v H Q=>∃p xs k j,o=.ref p/\i=.int k/\H p=some (.lst xs)/\Ky xs.length k=some j/\Q (upd H p (.lst (xs.set j v)))
theorem set_list:QW X OQ:=by
 intro pins s σ H o i v ov iv u Q I ro ri rv h;obtain ⟨p,xs,k,j,rfl,rfl,hp,hj,q⟩:=h;cases ro;obtain ⟨t,rfl⟩:=ri;obtain ⟨its,n,r,ho,hz⟩:=I.lst hp;obtain ⟨h1,h2,h3,h4⟩:=Jm hj;have hl:=r.length;have hn:=A4
 have I':Inv X pins σ (upd H p (.lst (xs.set j v))) { s with heap:=s.heap.update p (Obj.mapSeq (·.setIfInBounds j u)) } :=
  I.lstUpd hp ho (HU its n j u) (r.set rv j) (by rw[ee];exact hz) s.toks
 by_cases h0:0<=k
 ·have hk:k.toNat=j:=by
   rw[seqIndex_of h0 h4] at h1;exact cv h1
  exact PySem.W.ki_setAt ho h0 (by lia) (by rw[aQ,<- hl];exact h4) (by rw[hk];exact ⟨_,I',q⟩)
 ·have hk:(k+(its.toArray.size:Int)).toNat=j:=by
   rw[seqIndex_neg (by lia) h3] at h1;rw[aQ,<- hl];exact cv h1
  exact PySem.W.ki_setBack ho (by lia) (by rw[aQ,<- hl];exact h3) (by lia) (by rw[hk];exact ⟨_,I',q⟩)
theorem DV (lo hi:Option Int) (n:Nat):(sliceBounds lo hi none n).1=((HT.FR n 0 lo:Nat):Int)/\(sliceBounds lo hi none n).2.1=((HT.FR n n hi:Nat):Int)/\(sliceBounds lo hi none n).2.2=1:=by
 refine ⟨?_,?_,rfl⟩
 ·cases lo with
  | none=>simp [sliceBounds,HT.FR]
  | some i =>
   simp only[sliceBounds,HT.FR,Option.getD_none,show (1:Int) > 0 by decide,if_true];by_cases h:i < 0
   ·simp only[h,if_true] <;> lia
   ·simp only[h,if_false] <;> lia
 ·cases hi with
  | none=>simp [sliceBounds,HT.FR]
  | some i =>
   simp only[sliceBounds,HT.FR,Option.getD_none,show (1:Int) > 0 by decide,if_true];by_cases h:i < 0
   ·simp only[h,if_true] <;> lia
   ·simp only[h,if_false] <;> lia
theorem BU (its:List Value) (lo hi:Option Int):slicePick its.toArray lo hi none=((its.drop (HT.FR its.length 0 lo)).take (HT.FR its.length its.length hi - HT.FR its.length 0 lo)).toArray:=by
 obtain ⟨h1,h2,h3⟩:=DV lo hi its.toArray.size;unfold slicePick;rw[h1,h2,h3];simp only[sliceRange_one,pick_run,aQ] <;> rfl
def Qg (K:FG9):V->Option Int->Option Int->Hp->VK->Prop:=λx lo hi H Q=>∃a xs,x=.ref a/\bU K H a xs/\∀p,H p=none->Q (.ref p) (upd H p (.lst (tx xs lo hi)))
theorem DW:Tu X (Qg X.K):=by
 intro pins s σ H x v vl vu lo hi sl Q I rx hs pl pu h;obtain ⟨a,xs,rfl,hx,q⟩:=h;cases rx;obtain ⟨its,r,ht,hz⟩:=I.list hx;have hlen:=r.length;refine ⟨"list",_,slot_list_getitem.lookup,ht.isList.typeIs,?_⟩;refine wpAny_getItem_list_slice ht.isList hs pl pu .none (by simp) ?_ (by rw[aQ] <;> lia);rw[BU,<- hlen];refine ⟨.ref s.heap.objs.size,_,I.laid (t':=s.toks) (o:=.lst (tx xs lo hi)) (λb ob q=>Heap.get?_push_of_some _ q) (aj _) ?_,rfl,q _ (I.hok.fresh (aj _))⟩;exact ⟨ai (ze xs lo hi) hz,_,0,(r.drop (HT.FR xs.length 0 lo)).take (HT.FR xs.length xs.length hi - HT.FR xs.length 0 lo),Heap.get?_push_size _ rfl⟩
def vV:V->Bool
 | .non=>true
 | .bl _=>true
 | .int _=>true
 | .str _=>true
 | _=>false
def O3:V->V->Bool
 | .non,.non=>true
 | .bl a,.bl b=>a == b
 | .bl a,.int b=>(if a then 1 else 0) == b
 | .int a,.bl b=>a == (if b then 1 else 0)
 | .int a,.int b=>a == b
 | .str a,.str b=>a == b
 | _,_=>false
theorem QM (ry:RelV y u) (rx:RelV x v) (fy:vV y=true) (fx:vV x=true):SeqAt.EqAt A s u v (O3 y x):=by
 cases y with
 | non =>
  cases ry;cases x with
  | non=>cases rx;exact SeqAt.EqAt.same _
  | bl b=>cases rx;exact SeqAt.EqAt.none_bool b
  | int b=>obtain ⟨t,rfl⟩:=rx;exact SeqAt.EqAt.none_int b t
  | str b=>obtain ⟨t,rfl⟩:=rx;exact SeqAt.EqAt.none_str b t
  | _=>exact absurd (show false=true from fx) bu
 | bl a =>
  cases ry;cases x with
  | non=>cases rx;exact SeqAt.EqAt.bool_none a
  | bl b=>cases rx;exact SeqAt.EqAt.bool_bool a b
  | int b=>obtain ⟨t,rfl⟩:=rx;exact SeqAt.EqAt.bool_int a b t
  | str b=>obtain ⟨t,rfl⟩:=rx;exact SeqAt.EqAt.bool_str a b t
  | _=>exact absurd (show false=true from fx) bu
 | int a =>
  obtain ⟨t',rfl⟩:=ry;cases x with
  | non=>cases rx;exact SeqAt.EqAt.int_none a t'
  | bl b=>cases rx;exact SeqAt.EqAt.int_bool a t' b
  | int b=>obtain ⟨t,rfl⟩:=rx;exact SeqAt.EqAt.int_int a t' b t
  | str b=>obtain ⟨t,rfl⟩:=rx;exact SeqAt.EqAt.int_str a t' b t
  | _=>exact absurd (show false=true from fx) bu
 | str a =>
  obtain ⟨t',rfl⟩:=ry;cases x with
  | non=>cases rx;exact SeqAt.EqAt.str_none a t'
  | bl b=>cases rx;exact SeqAt.EqAt.str_bool a t' b
  | int b=>obtain ⟨t,rfl⟩:=rx;exact SeqAt.EqAt.str_int a t' b t
  | str b=>obtain ⟨t,rfl⟩:=rx;exact SeqAt.EqAt.str_str a t' b t
  | _=>exact absurd (show false=true from fx) bu
 | _=>exact absurd (show false=true from fy) bu
def Ob (x:V) (u:Value):Bool:=match u with
 | .none=>O3 .non x
 | .bool b=>O3 (.bl b) x
 | .int i _=>O3 (.int i) x
 | .str z _=>O3 (.str z) x
 | _=>false
theorem Ms (r:RelV y u) (f:vV y=true):Ob x u=O3 y x:=by
 cases y with
 | non=>cases r;rfl
 | bl b=>cases r;rfl
 | int i=>obtain ⟨t,rfl⟩:=r;rfl
 | str z=>obtain ⟨t,rfl⟩:=r;rfl
 | _=>exact absurd (show false=true from f) bu
theorem E8 {x:V}:∀{xs:List V} {us:List Value},cQ xs us->xs.all vV=true->us.any (Ob x)=xs.any λy=>O3 y x
 | _,_,.nil,_=>rfl
 | y :: xs,u :: us,.cons r t,f=>by
  rw[Rn,dP] at f;rw[List.any_cons,List.any_cons,Ms r f.1,E8 t f.2]
theorem A0 {A:Around} {s:Shared} {x:V} {v:Value} (rx:RelV x v) (fx:vV x=true):∀{xs:List V} {us:List Value},cQ xs us->xs.all vV=true->∀u∈us,SeqAt.EqAt A s u v (Ob x u)
 | _,_,.nil,_=>λu hu=>by cases hu
 | y :: xs,u :: us,.cons r t,f=>λu' hu=>by
  rw[Rn,dP] at f;rcases aG.mp hu with rfl | hu
  ·rw[Ms r f.1];exact QM r rx f.1 fx
  ·exact A0 rx fx t f.2 u' hu
def S4 (x:V) (xs:List V):Bool:=xs.any λy=>O3 y x
def rIn (K:FG9) (neg:Bool):R2:=λx y H Q=>∃p xs,y=.ref p/\(bU K H p xs\/mP K H p xs)/\vV x=true/\xs.all vV=true/\Q (.bl (if neg then !S4 x xs else S4 x xs)) H
theorem Es:yD X (compareOp .NotIn) (rIn X.K true):=by
 intro pins s σ H x y v u Q I rx ry h;obtain ⟨p,xs,rfl,hq,fx,fs,q⟩:=h;cases ry;rcases hq with hq | hq
 ·obtain ⟨its,r,pl,hz⟩:=I.list hq;refine SeqAt.notIn_listAt (Ob x) pl.isList (λw hw=>A0 rx fx r fs w (by simpa using hw)) ⟨.bl _,H,I,rfl,?_⟩;rw[show its.toArray.any (Ob x)=its.any (Ob x) by simp,E8 r fs];exact q
 ·obtain ⟨its,r,pl,hz⟩:=I.tuple hq;refine SeqAt.notIn_tupleAt (Ob x) pl (λw hw=>A0 rx fx r fs w (by simpa using hw)) ⟨.bl _,H,I,rfl,?_⟩;rw[show its.toArray.any (Ob x)=its.any (Ob x) by simp,E8 r fs];exact q
theorem bc:oP X (.builtin "len") (λxs H Q=>∃p ys,xs=[.ref p]/\(bU X.K H p ys\/mP X.K H p ys)/\Q (.int ys.length) H):=by
 intro pins s σ H xs us Q I r h;obtain ⟨p,ys,rfl,hq,q⟩:=h;obtain ⟨u,rfl,rx⟩:=vals1 r;cases rx;have hn:=A4;rcases hq with hq | hq
 ·obtain ⟨its,r',pl,hz⟩:=I.list hq;have hlen:=r'.length;exact Calls.call_len_list pl.isList (by simp only[aQ] <;> lia) ⟨.int ys.length,H,I.tok _,⟨s.toks+1,by rw[aQ,hlen]⟩,q⟩
 ·obtain ⟨its,r',pl,hz⟩:=I.tuple hq;have hlen:=r'.length;exact len_tuple pl (by simp only[aQ] <;> lia) ⟨.int ys.length,H,I.tok _,⟨s.toks+1,by rw[aQ,hlen]⟩,q⟩
theorem wG:oP X (.type "list") (λxs H Q=>∃p ys,xs=[.ref p]/\(bU X.K H p ys\/mP X.K H p ys)/\∀l,H l=none->Q (.ref l) (upd H l (.lst ys))):=by
 intro pins s σ H xs us Q I r h;obtain ⟨p,ys,rfl,hq,q⟩:=h;obtain ⟨u,rfl,rx⟩:=vals1 r;cases rx
 have fin:∀(its:List Value),cQ ys its->ys.length<=sizeLine->∀(h':Heap) (c':Nat),(∀b o',s.heap.get? b=some o'->h'.get? b=some o') →
   h'.get? s.heap.objs.size=some { cls:=.type "list",dict:=none,data:=.seq its.toArray c',slots:=#[] }->EP X pins σ Q (.ref s.heap.objs.size) { s with heap:=h' }:=λits r' hz h' c' kp e =>
  ⟨.ref s.heap.objs.size,_,I.laid (t':=s.toks) kp (aj _) (show iV X.prog X.w _ h' _ (.lst ys) from ⟨hz,its,c',r',e⟩),rfl,q _ (I.hok.fresh (aj _))⟩
 rcases hq with hq | hq
 ·obtain ⟨its,r',pl,hz⟩:=I.list hq;have hlen:=r'.length;obtain ⟨o,ho,hc,n,hd⟩:=pl.isList;exact call_list_seq p (.inl rfl) ho hc hd (λh' c' kp e=>fin its r' hz h' c' kp e) (by simp only[aQ] <;> lia)
 ·obtain ⟨its,r',pl,hz⟩:=I.tuple hq;have hlen:=r'.length;obtain ⟨o,ho,hc,n,hd⟩:=pl;exact call_list_seq p (.inr rfl) ho hc hd (λh' c' kp e=>fin its r' hz h' c' kp e) (by simp only[aQ] <;> lia)
def Tc (K:FG9) (T:String) (x:V) (H:Hp):Prop:=match x with
 | .str _=>T="str"
 | .int _=>T="int"
 | .ref p=>(T="list"/\∃xs,bU K H p xs)\/(T="tuple"/\∃o,K.lookup p=some o/\o.cls=.type "tuple"/\o.dict=none) \/
   (T="dict"/\((∃kvs,H p=some (.dK kvs))\/∃kvs,H p=some (.dT kvs)))\/(T="set"/\∃S n,H p=some (.set S n))
 | _=>False
theorem Pl {σ:St} (I:Inv X pins σ H s) (r:RelV x v) (ty:Tc X.K T x H) :
  s.TypeIs v T/\∀a,v=.ref a->∃ob,s.heap.get? a=some ob/\ob.dict=none:=by
 cases x with
 | str z =>
  obtain ⟨t,rfl⟩:=r;cases (show T="str" from ty);exact ⟨typeIs_str s z t,λ_ e=>nomatch e⟩
 | int i =>
  obtain ⟨t,rfl⟩:=r;cases (show T="int" from ty);exact ⟨typeIs_int s i t,λ_ e=>nomatch e⟩
 | ref p =>
  cases r;rcases ty with ⟨rfl,xs,hq⟩ | ⟨rfl,o,hk,hc,hd⟩ | ⟨rfl,hk⟩ | ⟨rfl,S,n,hk⟩
  ·obtain ⟨its,_,pl,_⟩:=I.list hq;refine ⟨pl.isList.typeIs,λa e=>?_⟩;cases e;obtain ⟨o,n,e,c,hd,_⟩:=pl;exact ⟨o,e,hd⟩
  ·refine ⟨⟨o,I.kIn p o hk,hc⟩,λa e=>?_⟩;cases e;exact ⟨o,I.kIn _ o hk,hd⟩
  ·have z:∃o,s.heap.get? p=some o/\o.ExactDict:=by
    rcases hk with ⟨kvs,hk⟩ | ⟨kvs,hk⟩
    ·obtain ⟨_,_,_,_,o,_,_,e,ex,_⟩:=I.hok p _ hk;exact ⟨o,e,ex⟩
    ·obtain ⟨_,_,_,_,o,_,_,e,ex,_⟩:=I.hok p _ hk;exact ⟨o,e,ex⟩
   obtain ⟨o,e,ex⟩:=z;refine ⟨⟨o,e,ex.1⟩,λa e2=>?_⟩;cases e2;exact ⟨o,e,ex.2.1⟩
  ·obtain ⟨o,_,_,_,e,ex,_⟩:=I.hok p _ hk;refine ⟨⟨o,e,ex.1⟩,λa e2=>?_⟩;cases e2;exact ⟨o,e,ex.2.1⟩
 | _=>exact False.elim ty
def tBM (K:FG9) (T:String) (r:V->List V->Hp->VK->Prop) (to:TE) (t:TA):TE:=λσ H Q=>to σ H λx H1=>Tc K T x H1/\t σ H1 λxs H2=>r x xs H2 Q
variable {o e:Expr} {es:List Expr} {to:TE} {t:TA} {name:Str} {apos cpos:Pos} {T id:String} {r:V->List V->Hp->VK->Prop}
theorem AJ (pa:PlainAttrs T) (slot:Slot T name id) (hty:typeOf (.builtin id)=pure (.type "method_descriptor")) (hm:MtR X id r) (ho:PE X o to) (ha:PA X (e :: es) t)
  (hbase:attributeBase o name X.env (eval o X.env)=eval o X.env:=by rfl)
  (hfew:((backTo cpos (starEach (e :: es) X.env)).all (λx=>!x.1) && (backToKw cpos (keywordEach [] X.env)).all (λx=>x.1.isSome)
   && decide ((e :: es).length+([]:List Keyword).length+(if ([]:List Keyword).isEmpty then 0 else 1) < 30))=true:=by rfl)
  (hline:(apos.endLine == cpos.line)=true:=by rfl) (hs:starEach (e :: es) X.env=(false,eval e X.env) :: starEach es X.env:=by rfl) (hplain:(backTo cpos (starEach es X.env)).any (·.1)=false:=by rfl) :
  PE X (.Call (.Attribute o name apos) (e :: es) [] cpos) (tBM X.K T r to t):=by
 intro pins s σ H Q I h;refine wpAny_Call_method_late hbase hfew hline rfl (fY (ho pins s σ H _ I h) λv s1 ⟨x,H1,I1,r1,ty,q1⟩=>?_);obtain ⟨h1,h2⟩:=Pl I1 r1 ty;refine ⟨T,id,pa,slot,hty,h1,h2,?_⟩;have hA:=ha cpos pins s1 σ H1 _ I1 q1;rw[hs] at hA ⊢;refine Calls.callWith_builtin (by show (false || (backTo cpos (starEach es X.env)).any (·.1))=false;rw[hplain] <;> rfl) (Calls.evalArgs_plain ?_);exact fY hA λus s2 ⟨vs,H2,I2,r2,q2⟩=>hm pins s2 σ H2 x vs v us Q I2 r1 r2 q2
end
def MtM (X:Cx) (id:String) (r:V->List V->Hp->VK->Prop):Prop :=
 ∀(pins:List (Addr×Obj)) (s:Shared) (σ:St) (H:Hp) (x:V) (xs:List V) (v:Value) (us:List Value) (Q:VK),Inv X pins σ H s->RelV x v->cQ xs us->r x xs H Q →
  wpAny (model X.prog X.w) X.A (call (.builtin id) (v :: us)) (EP X pins σ Q) X.xe s
theorem cQ.one:∀{x:V} {us:List Value},cQ [x] us->∃u,us=[u]/\RelV x u
 | _,_,.cons r .nil=>⟨_,rfl,r⟩
theorem cQ.eraseIdx:∀{xs:List V} {us:List Value} (i:Nat),cQ xs us->cQ (xs.eraseIdx i) (us.eraseIdx i)
 | _,_,_,.nil=>.nil
 | _,_,0,.cons _ t=>t
 | _,_,i+1,.cons r t=>.cons r (cQ.eraseIdx i t)
theorem cQ.rep {xs:List V} {us:List Value} (h:cQ xs us):∀k:Nat,cQ (List.replicate k xs).flatten (List.replicate k us).flatten
 | 0=>.nil
 | k+1=>by
  rw[ko,ko,gJ,gJ];exact cQ.append h (cQ.rep h k)
theorem CQ {α:Type}:∀(l:List α) (i:Nat),(l.eraseIdx i).length<=l.length
 | [],_=>aj _
 | _ :: _,0=>mM _
 | _ :: r,i+1=>dA (CQ r i)
theorem foldl_rep (its:List Value):∀(k:Nat) (acc:List Value),
  List.foldl (λx1 x2=>x1++x2) acc.toArray (List.replicate k its.toArray)=(acc++(List.replicate k its).flatten).toArray
 | 0,acc=>by simp
 | k+1,acc=>by
  have e:acc.toArray++its.toArray=(acc++its).toArray:=by simp
  have e2:(acc++its)++(List.replicate k its).flatten=acc++(List.replicate (k+1) its).flatten:=by
   rw[ko,gJ,cz]
  rw[<- e2,<- foldl_rep its k (acc++its),<- e,ko,List.foldl_cons]
section
variable {X:Cx} {pins:List (Addr×Obj)} {σ:St} {H:Hp} {s:Shared} {l b:Addr} {xs ys zs:List V}
theorem Inv.lset {its its':List Value} (I:Inv X pins σ H s) (hH:H l=some (.lst xs))
  (e:s.heap.get? l=some { cls:=.type "list",data:=.seq its.toArray n }) (hf:f its.toArray=its'.toArray) (hv:cQ ys its') (hz:ys.length<=sizeLine) :
  Inv X pins σ (upd H l (.lst ys)) { s with heap:=s.heap.update l (Obj.mapSeq f),toks:=t' }:=by
 have q:=j9 e f;rw[hf] at q;refine I.write (x:=l) (e:=l) (by rw[hH];exact trivial) (.inl rfl) (λb' u hb hu=>(Heap.get?_update_other s.heap (Obj.mapSeq f) (Ne.symm hb)).trans hu) ⟨_,q⟩ ?_;exact ⟨hz,its',_,hv,q⟩
theorem Inv.lnew (I:Inv X pins σ H s) (hv:cQ ys its) (hz:ys.length<=sizeLine) :
  Inv X pins σ (upd H s.heap.objs.size (.lst ys)) { s with heap:=s.heap.push { cls:=.type "list",data:=.seq its.toArray },toks:=t' } :=
 I.laid (λ_ _ q=>Heap.get?_push_of_some _ q) (aj _) ⟨hz,its,0,hv,Heap.get?_push_size _ rfl⟩
theorem Inv.fresh (I:Inv X pins σ H s):H s.heap.objs.size=none:=I.hok.fresh (aj _)
theorem Inv.lstM (I:Inv X pins σ H s) (hH:H l=some (.lst xs)):xs.length<=sizeLine/\∃(its:List Value) (n:Nat),cQ xs its/\xs.length=its.length/\s.heap.get? l=some { cls:=.type "list",data:=.seq its.toArray n }:=by
 obtain ⟨z,its,n,r,e⟩:=I.hok l _ hH;exact ⟨z,its,n,r,r.length,e⟩
theorem LI (h:n<=sizeLine):Builtin.List.listTooLong n=false:=by
 unfold Builtin.List.listTooLong;exact decide_eq_false (by lia)
end
section
variable {X:Cx}
def IV:V->List V->Hp->VK->Prop:=λx vs H Q=>∃l xs y,x=.ref l/\vs=[y]/\H l=some (.lst xs)/\xs.length < sizeLine/\Q .non (upd H l (.lst (xs++[y])))
theorem lV:MtM X "list.append" IV:=by
 intro pins s σ H x vs v us Q I rx rv h;obtain ⟨l,xs,y,rfl,rfl,hH,hz,q⟩:=h;cases rx;obtain ⟨u,rfl,ru⟩:=rv.one;obtain ⟨z,its,n,r,hl,e⟩:=I.lstM hH;refine call_meets F.slot_list_append ⟨_,e,rfl⟩ F.entry_list_append (F.args_list_append_2 _ _) (PySem.list_append l its.toArray n u (by rw[aQ];lia)) ⟨e,?_⟩;refine ⟨.non,_,I.lset (its':=its++[u]) hH e (by simp) (r.append (.cons ru .nil)) ?_,rfl,q⟩;rw[av,bH]
 lia
def Qh:V->List V->Hp->VK->Prop:=λx vs H Q=>∃l xs i k y,x=.ref l/\vs=[.int i]/\H l=some (.lst xs)/\-(2^63)<=i/\i < 2^63/\seqIndex? i xs.length=some k/\xs[k]?=some y/\Q y (upd H l (.lst (xs.eraseIdx k)))
theorem LM:MtM X "list.pop" Qh:=by
 intro pins s σ H x vs v us Q I rx rv h;obtain ⟨l,xs,i,k,y,rfl,rfl,hH,h1,h2,hk,hy,q⟩:=h;cases rx;obtain ⟨u,rfl,ru⟩:=rv.one;obtain ⟨t,rfl⟩:=ru;obtain ⟨z,its,n,r,hl,e⟩:=I.lstM hH;obtain ⟨w,hw,rw'⟩:=r.get hy
 refine call_meets F.slot_list_pop ⟨_,e,rfl⟩ F.entry_list_pop (F.args_list_pop_2 _ _)
  (MeetsSeq.list_pop_at l its.toArray n i t k w (fitsIndex_both h1 h2) (by rw[aQ,<- hl];exact hk) (by rw[<- Array.getElem?_toList];exact hw) (by rw[aQ];lia)) ⟨e,?_⟩
 refine ⟨y,_,I.lset (its':=its.eraseIdx k) hH e ?_ (r.eraseIdx k) ?_,rw',q⟩
 ·show its.toArray.eraseIdxIfInBounds k=(its.eraseIdx k).toArray
  rw[List.eraseIdxIfInBounds_toArray]
 ·have:=CQ xs k
  lia
def Sj:R2:=λx y H Q=>∃l b xs zs,x=.ref l/\y=.ref b/\H l=some (.lst xs)/\H b=some (.lst zs)/\xs.length+zs.length<=sizeLine/\∀p,H p=none->Q (.ref p) (upd H p (.lst (xs++zs)))
theorem kC:yD X (binaryOp .Add) Sj:=by
 intro pins s σ H x y v u Q I rx ry h;obtain ⟨l,b,xs,zs,rfl,rfl,hH,hB,hz,q⟩:=h;cases rx;cases ry;obtain ⟨z,its,n,r,hl,e⟩:=I.lstM hH;obtain ⟨z2,its2,n2,r2,hl2,e2⟩:=I.lstM hB;refine PySem.P.add_list e e2 ?_ (by rw[aQ,aQ];lia);have ea:its.toArray++its2.toArray=(its++its2).toArray:=by simp
 rw[ea];exact ⟨.ref _,_,I.lnew (t':=s.toks) (r.append r2) (by rw[av];lia),rfl,q _ I.fresh⟩
def Sh:R2:=λx y H Q=>∃l k xs,x=.ref l/\y=.int k/\H l=some (.lst xs)/\-(2^63)<=k/\k < 2^63/\xs.length*k.toNat<=sizeLine /\
 ∀p,H p=none->Q (.ref p) (upd H p (.lst (List.replicate k.toNat xs).flatten))
theorem len_rep {α:Type} (xs:List α) (k:Nat):(List.replicate k xs).flatten.length=k*xs.length:=by
 induction k with
 | zero=>simp
 | succ k ih=>rw[ko,gJ,av,ih,gH,nk]
theorem Lx:yD X (binaryOp .Mult) Sh:=by
 intro pins s σ H x y v u Q I rx ry h;obtain ⟨l,k,xs,rfl,rfl,hH,h1,h2,hz,q⟩:=h;cases rx;obtain ⟨t,rfl⟩:=ry;obtain ⟨z,its,n,r,hl,e⟩:=I.lstM hH;have hlen:its.toArray.size*k.toNat<=sizeLine:=by rw[aQ,<- hl];exact hz
 have hcap:¬its.toArray.size*k.toNat > (2^63 - 1) / 8:=by
  have:(sizeLine:Nat)<=(2^63 - 1) / 8:=by decide
  lia
 have hfit:¬(!Builtin.List.listFitsIndex k)=true:=by
  rw[fitsIndex_both h1 h2];exact bu
 have hlong:¬Builtin.List.listTooLong (its.toArray.size*k.toNat)=true:=by
  rw[LI hlen];exact bu
 have hnew:List.foldl (λx1 x2=>x1++x2) #[] (List.replicate (if its.toArray.isEmpty=true then 0 else k.toNat) its.toArray)=(List.replicate k.toNat its).flatten.toArray:=by
  have f0:∀m:Nat,List.foldl (λx1 x2=>x1++x2) #[] (List.replicate m its.toArray)=(List.replicate m its).flatten.toArray:=λm=>by
   have:=foldl_rep its m [];rw[cT] at this;exact this
  rw[f0];cases its with
  | nil=>simp
  | cons a r'=>rw[if_neg (by simp)]
 refine wpAny_binaryOp_repeat_ref (T:="list") (U:="int") (by decide) ⟨_,e,rfl⟩ (λs'=>typeIs_int s' k t) noFill_list_mul F.fills_int_mul F.slot_int_rmul repeat_list F.slot_int_index.lookup
  (call_meets F.slot_int_rmul (typeIs_int s k t) F.entry_int_rmul (F.args_int_rmul_2 _ _) (int___rmul___int_list k t l its.toArray n)
   ⟨e,rfl,⟨_,e,rfl⟩,call_meets F.slot_list_mul ⟨_,e,rfl⟩ F.entry_list_mul (F.args_list_mul_2 _ _) (AutoListH.list___mul___list_int_3 l its.toArray n k t hfit hcap hlong) ⟨e,?_⟩⟩)
 rw[hnew];exact ⟨.ref _,_,I.lnew (t':=s.toks) (r.rep k.toNat) (by rw[len_rep,cw];exact hz),rfl,q _ I.fresh⟩
end
end L2
namespace Att
open PySem PySem.W PySem.Calls PyProof.Rows
theorem zQ:∀(ns:List Int) (vs:List Value),WellAll P h vs (ns.map WData.int)->IntsAre vs ns:=by
 intro ns
 induction ns with
 | nil =>
  intro vs w;rw[List.map_nil] at w;cases w;exact .nil
 | cons n ns ih =>
  intro vs w;rw[gN] at w;cases w with
  | cons a b =>
   cases a;exact .cons _ _ (ih _ b)
theorem J0 {l:OpenLaw} (hn:l.most=some n) 
  (hpre:l.row.toRowW.claim.pre args=true) (hwl:WellAll P h vals args) :
  ∃a vs ns,vals=[Value.ref a]/\args=[WData.list (ns.map WData.int)]/\h.get? a=some { cls:=.type "list",data:=.seq vs.toArray }/\IntsAre vs ns/\ns.length<=n:=by
 have hsh:WShape.hasAll [] args [.list .int]=true:=(pre_splitW hpre).1;have hc:l.pre.holds [] { args:=args }=true:=(pre_splitW hpre).2;obtain ⟨d,r,rfl,h1,h2⟩:=hasAllW_cons hsh;obtain rfl:=hasAllW_nil h2;obtain ⟨xs,rfl,h3⟩:=hasW_list h1;obtain ⟨ns,rfl⟩:=items_int h3
 have hlen:ns.length<=n:=by
  unfold OpenLaw.pre at hc
  have h4:(WTm.not (.lt (.lit (.int (n:Int))) (.len (.arg 0)))).holds [] { args:=[.list (ns.map .int)] }=true:=by
   have h4:=(holds_andW hc).1;rw[hn] at h4;exact h4
  have h5:=condW_of h4 (w_not (w_lt w_lit (w_len_list (w_arg rfl))));rw[ag] at h5;refine Nat.le_of_not_lt λq=>?_
  have q':(n:Int) < ((ns.length:Nat):Int):=by lia
  first
   | (rw[decide_eq_true q'] at h5;exact absurd h5 (by decide))
   | (simp at h5;lia)
 cases hwl with
 | cons w1 w2 =>
  cases w2;cases w1 with
  | list ho hall=>exact ⟨_,_,ns,rfl,rfl,ho,zQ ns _ hall,hlen⟩
theorem Ka (l:OpenLaw) (args:List WData):l.row.toRowW.claim.post args (.bool true) args=true :=
 postW_of (r:=l.row.toRowW) (X:=(true == true))
  (show WShape.has [] (.bool true) .bool=true by first | rfl | decide | simp [WShape.has,WShape.arms,WShape.armsAll])
  (show (WTm.eq .res (.lit (.bool true))).value [] { args:=args,res:=some (.bool true),after:=args }=some (.bool (true == true)) from w_eq_bool (w_res rfl) w_lit) rfl
theorem GI {l:OpenLaw} 
  (hn:l.most=some n) (hdf:d.params.defaults=[])
  (call:∀(w:World) (s₀ s₁:Shared) (mg mb:Str->Option Value) (fa:Addr) (o:Obj) (pm cd doc:Value) (a:Addr) (vs:List Value) (ns:List Int),
   Ground q loose [] XP w s₀ mg mb s₁.heap->YP w s₁.heap →
   s₁.heap.get? fa=some o->o.data=.func (docDef d.name d.params d.body d.scope pm cd doc)->s₁.heap.CodeRec cd d.name->mg d.name=some (.ref fa) →
   s₁.heap.get? a=some { cls:=.type "list",data:=.seq vs.toArray }->IntsAre vs ns->ns.length<=n->s₁.gens=#[] →
   codeAny (model l.prog w) callerA (.call (.ref fa) ⟨[.ref a],[]⟩) (λr s'=>r=.ok (.ret (.bool true))/\OldK s₁.heap s'.heap/\s'.os=s₁.os/\AllBare s'.gens) s₁) :
  WalkO q loose XP YP l.row.toRowW d [] (λf vs=>PySem.call f vs):=by
 intro w s₀ s₁ mg mb G Y fa o pm cd doc dV kV ho hd hcd hD hmg hg args vals as hpre hlay hrd hwl hlo;obtain rfl:dV=.none:=Dflts.none hD hdf;obtain rfl:kV=.none:=Dflts.noKw hD;obtain ⟨a,vs,ns,rfl,rfl,hobj,hints,hlen⟩:=J0 hn hpre hwl;refine enter_call (codeAny_mono (call w s₀ s₁ mg mb fa o pm cd doc a vs ns G Y ho (fd_plain hd) hcd hmg hobj hints hlen hg) λr s' hq=>?_);obtain ⟨rfl,h2,h3,h4⟩:=hq;exact ⟨.inl ⟨.bool true,.bool true,[],rfl,λ_=>rfl,.bool true,Ka l _,λ_=>⟨List.Pairwise.nil,λ_ hm=>(nomatch hm)⟩⟩,h2,h3,h4⟩
section
variable {prog:Program} {w:World} {A:Around} {E:Value->Shared->Prop} {s:Shared} {K:Frag}
end
end Att
namespace L2
open PySem PySem.Spec PyProof.Rows
theorem Cp:∀{vs:List Value} {ns:List Int},IntsAre vs ns->cQ (ns.map V.int) vs
 | _,_,.nil=>.nil
 | _,_,.cons n t h=>.cons ⟨t,rfl⟩ (Cp h)
def QX (H:Hp):Prop:=∀b,H b=none\/∃o xs,H b=some (.frz o (.lst xs))
theorem LS {K:FG9} 
  (KX:K.In s₁.heap) (hns:s₁.heap.Ns mainGlobals mg) (hb:s₁.heap.Ns builtinsNs mb) (hbb:∀x:Str,x≠"__name__"->mb x=bootBuiltins x) (hlim:s₁.heap.NoLimit) (hg:s₁.gens=#[])
  (ha:s₁.heap.get? a=some { cls:=.type "list",data:=.seq vs.toArray }) (hi:IntsAre vs ns) (hl:ns.length<=sizeLine) (hr:kI k callerA)
  (F:∀base:Heap,K.In base->base.Ns mainGlobals mg->cK P w K mg base CX k fa fd [x] sp) (hbind:∀(s:Shared) (u:Value),BindsTo s fd ⟨[u],[]⟩ [(x,u)])
  (hsp:∀H:Hp,QX H->bU K H a (ns.map V.int)->sp [.ref a] H (λv _=>v=.bl true) λ_ _ _=>False)
  (hCX:∀H e s',CX [] H s₁ (λ_ _ _=>False) e s'->False) :
  codeAny (model P w) callerA (.call (.ref fa) ⟨[.ref a],[]⟩) (λr s'=>r=.ok (.ret (.bool true))/\OldK s₁.heap s'.heap/\s'.os=s₁.os/\AllBare s'.gens) s₁:=by
 have rv:=Cp hi;have lenV:=hi.length
 have core:∀H:Hp,QX H->bU K H a (ns.map V.int)->Ab P w H s₁.heap->(∀b,H b≠none->b=a)->(H a≠none->K.lookup a=none) →
   codeAny (model P w) callerA (.call (.ref fa) ⟨[.ref a],[]⟩) (λr s'=>r=.ok (.ret (.bool true))/\OldK s₁.heap s'.heap/\s'.os=s₁.os/\AllBare s'.gens) s₁:=by
  intro H hO hS hok hA hK;have base_of:∀{b:Addr} {o:Obj},s₁.heap.get? b=some o->H b=none->(EO s₁.heap H).get? b=some o:=λe n=>Mb e n
  have noA:∀{b:Addr} {o:Obj} {es:Array DictEntry} {ep:Nat},s₁.heap.get? b=some o->o.data=.dict es ep->H b=none:=λ{b o es ep} e d=>by
   cases q:H b with
   | none=>rfl
   | some u =>
    have e':b=a:=hA b (by rw[q];simp);subst e';rw[ha] at e;cases e;have d':Data.seq vs.toArray _=Data.dict es ep:=d;cases d'
  have nsK:∀{b:Addr} {m:Str->Option Value},s₁.heap.Ns b m->(EO s₁.heap H).Ns b m:=λ{b m} ⟨o,es,ep,e,d,r⟩=>⟨o,es,ep,base_of e (noA e d),d,r⟩
  have hKb:K.In (EO s₁.heap H):=λb o e=>base_of (KX b o e) (by
   cases q:H b with
   | none=>rfl
   | some u =>
    have e':b=a:=hA b (by rw[q];simp);subst e';rw[hK (by rw[q];simp)] at e;cases e)
  have hM:Mod K mg (EO s₁.heap H):=⟨hKb,nsK hns,⟨mb,nsK hb,hbb⟩,let ⟨mc,h1,h2⟩:=hlim;⟨mc,nsK h1,h2⟩⟩;have e0:Iq P w K mg (EO s₁.heap H) callerA [] s₁ H:=⟨rfl,hM,λb o e=>NV e,Nat.le_of_eq (Ko _ _),trivial,λb hb=>absurd (show b∈([]:List Addr) from hb) (by simp),hok,.of_eq hg⟩;refine codeAny_mono ((F _ hKb (nsK hns)).run callerA [] s₁ H ⟨[.ref a],[]⟩ [.ref a] [.ref a] _ _ hr e0 (hbind s₁ (.ref a)) (.cons rfl .nil) (hsp H hO hS)) λr s' h=>?_
  cases r with
  | error e=>exact (hCX H e s' h).elim
  | ok fl =>
   cases fl with
   | next=>exact False.elim h
   | brk=>exact False.elim h
   | cont=>exact False.elim h
   | ret u =>
    obtain ⟨v,H',os,bare,un,hok',r',q⟩:=h;have q':v=.bl true:=q;subst q';obtain rfl:u=Value.bool true:=r';refine ⟨rfl,OldK.of_keep λb o e=>?_,os,bare⟩;cases q:H b with
    | none=>exact un.keep b o e q (by intro z;exact absurd (show b∈([]:List Addr) from z) (by simp)) (by simp)
    | some u =>
     rcases hO b with z | ⟨ob,xs,z⟩
     ·rw[q] at z;cases z
     ·have z2:=un.frzs b ob _ z;obtain ⟨e1,_⟩:=hok b _ z;obtain ⟨e2,_⟩:=hok' b _ z2;rw[e] at e1;cases e1;exact e2
 cases hk:K.lookup a with
 | some o =>
  have e:=KX a o hk;rw[ha] at e;cases e;refine core (λ_=>none) (λ_=>.inl rfl) (.inr ⟨_,vs.toArray,_,hk,rfl,rfl,rfl,by rw[aQ,lenV];exact hl,by simpa using rv⟩) (λb u z=>by have z':(none:Option HO)=some u:=z;cases z') (λb z=>absurd rfl z) λz=>absurd rfl z
 | none =>
  refine core (λb=>if b=a then some (.frz { cls:=.type "list",data:=.seq vs.toArray } (.lst (ns.map V.int))) else none) (λb=>?_) (.inl (.inr ⟨{ cls:=.type "list",data:=.seq vs.toArray },if_pos rfl⟩)) (λb u z=>?_) (λb z=>?_) λ_=>hk
  ·by_cases hb:b=a
   ·exact .inr ⟨_,_,if_pos hb⟩
   ·exact .inl (if_neg hb)
  ·by_cases hb:b=a
   ·have z':=(if_pos hb).symm.trans z;cases z';subst hb;exact ⟨ha,by rw[ag];exact hl,vs,_,rv,ha⟩
   ·have z':=(if_neg hb).symm.trans z;cases z'
  ·by_cases hb:b=a
   ·exact hb
   ·exact absurd (if_neg hb) z
theorem MU {l:PySem.W.OpenLaw} {K:Params->FG9} {CX:World->MH} {sp:World->Sp} 
  (hn:l.most=some n) (hn2:n<=sizeLine) (hdf:d.params.defaults=[]) (hr:kI k callerA)
  (hY:∀(w:World) (h:Heap),YP w h->(K w.params).In h)
  (F:∀(w:World) (mg:Str->Option Value) (fa:Addr) (h:Heap),(K w.params).In h->h.Ns mainGlobals mg->mg d.name=some (.ref fa) →
   ∃fd:FuncData,(∀(s:Shared) (u:Value),BindsTo s fd ⟨[u],[]⟩ [(x,u)]) /\
    ∀base:Heap,(K w.params).In base->base.Ns mainGlobals mg->cK l.prog w (K w.params) mg base (CX w) k fa fd [x] (sp w))
  (hsp:∀(w:World) (H:Hp) (a:Addr) (ns:List Int),ns.length<=n->QX H->bU (K w.params) H a (ns.map V.int)->sp w [.ref a] H (λv _=>v=.bl true) λ_ _ _=>False)
  (hCX:∀(w:World) (H:Hp) (s:Shared) (e:Value) (s':Shared),CX w [] H s (λ_ _ _=>False) e s'->False) :
  PySem.W.WalkO q loose XP YP l.row.toRowW d [] (λf vs=>PySem.call f vs):=by
 refine Att.GI hn hdf λw s₀ s₁ mg mb fa o pm cd doc a vs ns G Y ho hd hcd hmg hobj hints hlen hg=>?_
 have KX:=hY w _ Y;obtain ⟨fd,hb,hF⟩:=F w mg fa _ KX G.T.g hmg;exact LS KX G.T.g G.T.b G.T.builtins G.T.nolimit hg hobj hints (ai hlen hn2) hr hF hb (λH hO hS=>hsp w H a ns hlen hO hS) λH e s'=>hCX w H s₁ e s'
end L2

namespace L2
open PySem PySem.Spec PyProof.Rows
def inClass (s:Stmt) (j:Nat):Stmt:=match s with
 | .ClassDef _ _ _ body _ _ _ _ _ _ _=>body.getD j (.Pass ⟨0,0,0,0⟩)
 | _=>.Pass ⟨0,0,0,0⟩
def lD (s:Stmt):Arguments:=match s with
 | .FunctionDef _ a _ _ _ _ _ _ _ _=>a
 | _=>{ posonlyargs:=[],args:=[],vararg:=none,kwonlyargs:=[],kw_defaults:=[],kwarg:=none,defaults:=[] }
def jq (s:Stmt):List Stmt:=match s with
 | .FunctionDef _ _ b _ _ _ _ _ _ _=>b
 | _=>[]
def aI (s:Stmt):Scope:=match s with
 | .FunctionDef _ _ _ _ _ _ sc _ _ _=>sc
 | _=>{ kind:=.function,names:=[],isGenerator:=false,isCoroutine:=false }
abbrev fu:MH:=λ_ _ _ _ _ _=>False
abbrev E0:XK:=λ_ _ _=>False
theorem CK:yC fu X E0:=λ_ _ _ _ _ _ _ h=>h.elim
structure MM (K:FG9) (x qual:Str) (st:Stmt) (f:Addr) (fd:FuncData):Prop where
 ex:∃(oc:Value) (od:Option Addr) (kV doc pm:Value) (an:Option Addr) (cdv ct:Value) (osl:Array (Option Value)),
  fd=PySem.W.fnOf x qual (lD st) (jq st) (aI st) .none kV doc pm an cdv ct/\K.lookup f=some ⟨oc,od,.func fd,osl⟩/\PySem.W.codeIn K cdv qual=true
 kp:PySem.W.keepIn K (.ref f)=true
section
variable {P:Program} {w:World} {K:FG9} {mg:Str->Option Value} {base:Heap}
theorem MM.ok {st:Stmt} (F:MM K x qual st f fd) (S:aV N ps (aI st)) (len:∀vs H Q E,sp vs H Q E->vs.length=ps.length)
  (hbody:∀(cdv:Value) (A:Around) (outer:List Env) (s:Shared) (H:Hp) (vs:List V) (Q:VK) (E:XK),kI k (A.deeper (envOfC qual (aI st) s.heap.objs.size f cdv))->sp vs H Q E →
   ∃t,Io (Ks fu P w K mg base N qual (aI st) f cdv A outer s H E).nox (jq st) t/\t { nx:=λ_ H'=>Q .non H',rt:=Q } (start N vs) H):cK P w K mg base fu (k+1) f fd ps sp:=by
 obtain ⟨oc,od,kV,doc,pm,an,cdv,ct,osl,rfl,lk,hcd⟩:=F.ex;refine SE lk hcd S len λA outer s H vs Q E hr hsp=>?_
 obtain ⟨t,h,q⟩:=hbody cdv A outer s H vs Q E hr hsp;exact ⟨t,h.nox,q⟩
theorem MM.binds {st:Stmt} (F:MM K x qual st f fd)
  (h:∀(kV doc pm:Value) (an:Option Addr) (cdv ct:Value) (us:List Value),us.length=ps.length->bindArgs (PySem.W.fnOf x qual (lD st) (jq st) (aI st) .none kV doc pm an cdv ct) ⟨us,[]⟩=pure (ps.zip us)):Binds K fd ps []:=by
 obtain ⟨oc,od,kV,doc,pm,an,cdv,ct,osl,rfl,lk,hcd⟩:=F.ex;exact .all (h kV doc pm an cdv ct)
theorem Ic {st:Stmt} {kV doc pm cdv ct:Value} (l:K.lookup f=some ⟨oc,od,.func (PySem.W.fnOf x qual (lD st) (jq st) (aI st) .none kV doc pm an cdv ct),osl⟩)
  (c:PySem.W.codeIn K cdv qual=true) (k:PySem.W.keepIn K (.ref f)=true):MM K x qual st f (PySem.W.fnOf x qual (lD st) (jq st) (aI st) .none kV doc pm an cdv ct):=⟨⟨oc,od,kV,doc,pm,an,cdv,ct,osl,rfl,l,c⟩,k⟩
end
structure Df (K:FG9) (mg:Str->Option Value) (x:Str) (st:Stmt) (ps:List Str) (f:Addr) (fd:FuncData):Prop where
 m:mg x=some (.ref f)
 b:Binds K fd ps []
 F:MM K x x st f fd
structure Dh (K:FG9) (x:Str) (st:Stmt) (f:Addr) (fd:FuncData):Prop where
 a:PySem.W.nsIn K mainGlobals x=some (some (.ref f))
 F:MM K x x st f fd
theorem SH {K:FG9} {st:Stmt} {kV doc pm cdv ct:Value} (a:PySem.W.nsIn K mainGlobals x=some (some (.ref f))) (l:K.lookup f=some ⟨oc,od,.func (PySem.W.fnOf x x (lD st) (jq st) (aI st) .none kV doc pm an cdv ct),osl⟩) (c:PySem.W.codeIn K cdv x=true) (k:PySem.W.keepIn K (.ref f)=true):Dh K x st f (PySem.W.fnOf x x (lD st) (jq st) (aI st) .none kV doc pm an cdv ct):=⟨a,Ic l c k⟩
theorem Dh.D {K:FG9} {x:Str} {st:Stmt} {f:Addr} {fd:FuncData} {ps:List Str} {mg:Str->Option Value} {h:Heap} (d:Dh K x st f fd) (X:K.In h) (G:h.Ns mainGlobals mg) (hb:∀(kV doc pm:Value) (an:Option Addr) (cdv ct:Value) (us:List Value),us.length=ps.length->bindArgs (PySem.W.fnOf x x (lD st) (jq st) (aI st) .none kV doc pm an cdv ct) ⟨us,[]⟩=pure (ps.zip us):=by walk_at "b"):Df K mg x st ps f fd:=⟨PySem.W.mg_of X G d.a,d.F.binds hb,d.F⟩
theorem cM {X:Cx} {k k':Nat} {f:Addr} {fd:FuncData} {ps:List Str} {sp:Sp} {x:Str} {st:Stmt} {p pos:Pos} {e:Expr} {es:List Expr} {t:TA} (F:cK X.prog X.w X.K X.mg X.base fu k f fd ps sp) (hr:kI k' X.A) (D:Df X.K X.mg x st ps f fd) (ha:PA X (e :: es) t) (hle:k<=k':=by decide) (hg:Gl X x:=by exact rfl) (hdb:(x == ("__debug__":Str))=false:=by decide) (he:starEach (e :: es) X.env=(false,eval e X.env) :: starEach es X.env:=by rfl) (hpl:(backTo pos (starEach es X.env)).any (·.1)=false:=by rfl):PE X (.Call (.Name x p) (e :: es) [] pos) (KS sp [] E0 t):=NR F (hr.mono hle) hg D.m D.F.kp D.b .nil CK ha hdb he hpl
theorem bO (h:n<=1000):n < sizeLine:=bB h (by decide)
section
variable {X:Cx}
theorem pv (i:Nat) {x:Str} {pos:Pos} (hN:X.N[i]?=some x:=by rfl) (hv:Tq X.env.scope x:=by first | exact Or.inl rfl | exact Or.inr (Or.inl rfl) | exact Or.inr (Or.inr rfl)) (hd:(x == ("__debug__":Str))=false:=by decide)
  (hcd:(x == ("__classdict__":Str))=false:=by decide):PE X (.Name x pos) (Pq i):=Qn hN hv hd hcd
end
theorem N4 {A B:Prop} (h:B):if false=true then A else B:=by
 rw[if_neg bu];exact h
theorem Sr {A B:Prop} (h:A):if true=true then A else B:=by
 rw[if_pos rfl];exact h
theorem gZ {c A B:Prop} [Decidable c] (h1:c->A) (h2:¬c->B):if c then A else B:=by
 by_cases h:c
 ·rw[if_pos h];exact h1 h
 ·rw[if_neg h];exact h2 h
def aH (H H':Hp):Prop:=∀b o,H b=some o->H' b=some o
theorem aH.refl (H:Hp):aH H H:=λ_ _ h=>h
theorem aH.trans (a:aH H H1) (b:aH H1 H2):aH H H2:=λc o h=>b c o (a c o h)
theorem aH.free (e:aH H H') (h:H' l=Option.none):H l=Option.none:=by
 cases q:H l with
 | none=>rfl
 | some o =>
  rw[e l o q] at h;cases h
theorem aH.seq {K:FG9} (e:aH H H') (h:bU K H a xs):bU K H' a xs:=by
 rcases h with (h | ⟨o,h⟩) | h
 ·exact .inl (.inl (e _ _ h))
 ·exact .inl (.inr ⟨o,e _ _ h⟩)
 ·exact .inr h
end L2
namespace Nm
theorem Mi (a b:Int):Int.gcd b (a.fmod b)=Int.gcd a b:=by
 rw[Int.fmod_def,kb a b];apply Nat.dvd_antisymm
 ·apply MJ
  ·exact eK ..
  ·have h1:=eK (a:=b) (b:=a - b*a.fdiv b);have h2:=fh (a:=b) (b:=a - b*a.fdiv b);have h3:=Int.dvd_add h2 (mO (c:=a.fdiv b) h1);rwa [Int.sub_add_cancel] at h3
 ·apply MJ
  ·exact eK ..
  ·exact Int.dvd_sub (fh ..) (mO (eK ..))
theorem Mj (a b:Int):Int.gcd b (a % b)=Int.gcd a b:=by
 rw[Int.emod_def,kb a b];apply Nat.dvd_antisymm
 ·apply MJ
  ·exact eK ..
  ·have h1:=eK (a:=b) (b:=a - b*(a / b));have h2:=fh (a:=b) (b:=a - b*(a / b));have h3:=Int.dvd_add h2 (mO (c:=a / b) h1);rwa [Int.sub_add_cancel] at h3
 ·apply MJ
  ·exact eK ..
  ·exact Int.dvd_sub (fh ..) (mO (eK ..))
theorem Oa (a b:Int) (h:b≠0):(a.fmod b).natAbs < b.natAbs:=by
 rcases Int.lt_or_gt_of_ne h with h | h
 ·have e:a.fmod b=-((-a).fmod (-b)):=by
   have:=Int.neg_fmod_neg (-a) (-b);simp only[Int.neg_neg] at this;exact this
  have h1:=Int.fmod_nonneg_of_pos (-a) (b:=-b) (by lia);have h2:=Int.fmod_lt_of_pos (-a) (b:=-b) (by lia)
  lia
 ·have h1:=Int.fmod_nonneg_of_pos a h;have h2:=Int.fmod_lt_of_pos a h
  lia
def g (t b:Int):Int:=(Int.gcd t b:Int)
def lo (t b:Int):Int:=t / g t b
def hi (t b:Int):Int:=b / g t b
theorem A8 (h:b≠0):0 < g t b:=by
 unfold g;have:0 < Int.gcd t b:=MS _ h
 lia
theorem A3 (t b:Int):lo t b*g t b=t:=Int.ediv_mul_cancel (eK ..)
theorem yv (t b:Int):hi t b*g t b=b:=Int.ediv_mul_cancel (fh ..)
theorem ER (h:0 < b):0 < hi t b:=by
 have h1:=A8 (t:=t) (b:=b) (by lia);have h2:=yv t b;by_cases h3:0 < hi t b
 ·exact h3
 ·have:hi t b*g t b<=0:=Int.mul_nonpos_of_nonpos_of_nonneg (by lia) (by lia)
  lia
theorem A1 (h:b≠0):Int.gcd (lo t b) (hi t b)=1:=by
 have h1:=A8 (t:=t) h;have e:=Int.gcd_mul_right (lo t b) (g t b) (hi t b);rw[A3,yv] at e;have e2:(g t b).natAbs=Int.gcd t b:=by unfold g;simp
 rw[e2] at e;have h2:0 < Int.gcd t b:=MS _ h;exact Nat.eq_of_mul_eq_mul_right h2 (by rw[<- e,xp])
theorem A2 (t b:Int):lo t b*b=t*hi t b:=by
 have h1:=A3 t b;have h2:=yv t b
 calc lo t b*b=lo t b*(hi t b*g t b):=by rw[h2]
  _=(lo t b*g t b)*hi t b:=by rw[fE (hi t b),<- dF]
  _=t*hi t b:=by rw[h1]
theorem qi (h:Int.gcd a b=1) (hd:a∣b*c):a∣c:=by
 have h1:a.natAbs∣b.natAbs*c.natAbs:=by rw[<- eU];exact eF.mpr hd
 have h2:Nat.Coprime a.natAbs b.natAbs:=h;exact eF.mp (h2.dvd_of_dvd_mul_left h1)
theorem uniq (hb:0 < b) (hd:0 < d) (h1:Int.gcd a b=1) (h2:Int.gcd c d=1) (e:a*d=c*b):a=c/\b=d:=by
 have e1:b∣d:=by
  have:b∣a*d:=⟨c,by rw[e,fE]⟩;exact qi (by rw[kb];exact h1) this
 have e2:d∣b:=by
  have:d∣c*b:=⟨a,by rw[<- e,fE]⟩;exact qi (by rw[kb];exact h2) this
 have e3:b=d:=Int.dvd_antisymm (by lia) (by lia) e1 e2;subst e3;exact ⟨uv (by lia) e,rfl⟩
theorem Qx (hb:0 < b) (hd:0 < d) (h2:Int.gcd c d=1) (e:t*d=c*b):lo t b=c/\hi t b=d:=by
 refine uniq (ER hb) hd (A1 (by lia)) h2 ?_;have h:=A2 t b;have hb':b≠0:=by lia
 apply uv hb'
 calc lo t b*d*b=lo t b*b*d:=by rw[dF,fE d b,<- dF]
  _=t*hi t b*d:=by rw[h]
  _=t*d*hi t b:=by rw[dF,fE (hi t b),<- dF]
  _=c*b*hi t b:=by rw[e]
  _=c*hi t b*b:=by rw[dF,fE b,<- dF]
theorem Qy (hb:0 < b) (h:Int.gcd a b=1):lo a b=a/\hi a b=b:=Qx hb hb h rfl
theorem nO {a b:Int} (h:b≠0):a.natAbs<=(a*b).natAbs:=by
 rw[eU];exact dn _ (Int.natAbs_pos.mpr h)
theorem lo_le (h:b≠0):(lo t b).natAbs<=t.natAbs:=by
 have:=nO (a:=lo t b) (b:=g t b) (by have:=A8 (t:=t) h;lia);rwa [A3] at this
theorem O0 (h:b≠0):(hi t b).natAbs<=b.natAbs:=by
 have:=nO (a:=hi t b) (b:=g t b) (by have:=A8 (t:=t) h;lia);rwa [yv] at this
def Sz (k:Nat) (x:Int):Prop:=x.natAbs < 2^k
theorem Sz.mono (h:Sz j x) (l:j<=k):Sz k x:=bJ h (ao (by decide) l)
theorem Sz.mul (h1:Sz j x) (h2:Sz k y):Sz (j+k) (x*y):=by
 unfold Sz at *
 rw[eU,bg];exact Nat.mul_lt_mul'' h1 h2
theorem Sz.neg (h:Sz k x):Sz k (-x):=by unfold Sz at *;rw[jA];exact h
theorem Sz.le (h:Sz k y) (l:x.natAbs<=y.natAbs):Sz k x:=bB l h
theorem Sz.hi {k:Nat} {t b:Int} (h:Sz k b) (hb:b≠0):Sz k (hi t b):=h.le (O0 hb)
end Nm
namespace L2
open PySem PySem.Spec PyProof.Rows
structure Bk (env:Env) (scope:Scope) (own capN:List Str):Prop where
 kind:scope.kind=.function
 locs:∀y∈scope.names,y.2=.local->scope.names.lookup y.1=some .local
 ownk:∀x∈own,scope.names.lookup x=some .local\/scope.names.lookup x=some .cell
 cells:∀y∈scope.names,y.2=.cell->y.1∈own/\y.1∉capN
 frees:∀y∈scope.names,y.2=.free->y.1∈capN/\y.1∉own
 capf:∀x∈capN,scope.names.lookup x=some .free
 caps:∀x∈capN,env.kindOf x=some .cell\/env.kindOf x=some .free
def S5 (scope:Scope) (own capN:List Str):Bool :=
 decide (scope.kind=.function) && scope.names.all (λy=>decide (y.2=.local->scope.names.lookup y.1=some .local) && decide (y.2=.cell->y.1∈own/\y.1∉capN) && decide (y.2=.free->y.1∈capN/\y.1∉own)) &&
 own.all (λx=>decide (scope.names.lookup x=some .local\/scope.names.lookup x=some .cell)) && capN.all λx=>decide (scope.names.lookup x=some .free)
def Dg (env:Env):List Str->Bool
 | []=>true
 | x :: r=>(match env.kindOf x with | some .cell=>true | some .free=>true | _=>false) && Dg env r
theorem GD {env:Env}:∀{capN:List Str},Dg env capN=true->∀x∈capN,env.kindOf x=some .cell\/env.kindOf x=some .free
 | [],_,_,h=>nomatch h
 | y :: r,h,x,hx=>by
  unfold Dg at h;rw[dP] at h;rcases aG.mp hx with e | hx
  ·subst e;have h1:=h.1
   split at h1
   ·rename_i e;exact .inl e
   ·rename_i e;exact .inr e
   ·cases h1
  ·exact GD h.2 x hx
theorem Bk.of (h1:S5 scope own capN=true) (h2:Dg env capN=true):Bk env scope own capN:=by
 unfold S5 at h1;rw[dP,dP,dP,oS,oS,oS] at h1;obtain ⟨⟨⟨a1,a2⟩,a3⟩,a4⟩:=h1
 have a2':∀y∈scope.names,(y.2=.local->scope.names.lookup y.1=some .local)/\(y.2=.cell->y.1∈own/\y.1∉capN)/\(y.2=.free->y.1∈capN/\y.1∉own):=λy hy=>by
  have q:=a2 y hy;rw[dP,dP] at q;exact ⟨of_decide_eq_true q.1.1,of_decide_eq_true q.1.2,of_decide_eq_true q.2⟩
 exact ⟨of_decide_eq_true a1,λy hy=>(a2' y hy).1,λx hx=>of_decide_eq_true (a3 x hx),λy hy=>(a2' y hy).2.1,λy hy=>(a2' y hy).2.2,λx hx=>of_decide_eq_true (a4 x hx),GD h2⟩
def dS (env:Env):List (Str×NameKind)->List (Str×Addr)->List (Str×Addr)
 | [],acc=>acc
 | (n,k) :: r,acc=>if k == .free then dS env r ((n,(env.cells.lookup n).getD 0) :: acc) else dS env r acc
theorem ij (env:Env):∀(names:List (Str×NameKind)) (acc:List (Str×Addr)),dS env names acc=dS env names []++acc
 | [],_=>rfl
 | (n,k) :: r,acc=>by
  unfold dS
  split
  ·rw[ij env r (_ :: acc),ij env r [_],cz];rfl
  ·exact ij env r acc
theorem qo (env:Env):∀(names:List (Str×NameKind)) {x:Str} {c:Addr},(x,c)∈dS env names []->(x,NameKind.free)∈names/\c=(env.cells.lookup x).getD 0
 | [],_,_,h=>nomatch h
 | (n,k) :: r,x,c,h=>by
  unfold dS at h
  split at h
  ·rename_i hk
   have ek:k=.free:=by simpa using hk
   subst ek;rw[ij] at h;rcases az.mp h with h | h
   ·have q:=qo env r h;exact ⟨ck _ q.1,q.2⟩
   ·have e:(x,c)=(n,(env.cells.lookup n).getD 0):=by simpa using h
    cases e;exact ⟨dt,rfl⟩
  ·have q:=qo env r h;exact ⟨ck _ q.1,q.2⟩
theorem iJ {α:Type}:∀{l:List (Str×α)} {x:Str} {c:α},(x,c)∈l->∃d,l.lookup x=some d
 | (k,v) :: r,x,c,h=>by
  rw[ka];cases hb:x == k with
  | true=>exact ⟨v,rfl⟩
  | false =>
   rcases aG.mp h with e | h
   ·cases e;simp at hb
   ·exact iJ h
theorem qq (env:Env):∀(names:List (Str×NameKind)) {x:Str},(x,NameKind.free)∈names->∃c,(x,c)∈dS env names []
 | (n,k) :: r,x,h=>by
  unfold dS;rcases aG.mp h with e | h
  ·cases e;rw[if_pos (by decide),ij];exact ⟨_,bR _ dt⟩
  ·obtain ⟨c,q⟩:=qq env r h
   split
   ·rw[ij];exact ⟨c,eT _ q⟩
   ·exact ⟨c,q⟩
theorem Bu (h:∀y∈scope.names,y.2=.free->∃c,env.cells.lookup y.1=some c):closureFor scope env=pure (dS env scope.names []):=by
 have gen:∀(names:List (Str×NameKind)) (acc:List (Str×Addr)) (f:Str×NameKind->List (Str×Addr)->Sem (ForInStep (List (Str×Addr)))),
   (∀name kind cells,f (name,kind) cells=if kind == .free then (do let a <- cellOf env name;pure (.yield ((name,a) :: cells))) else pure (.yield cells)) →
   (∀y∈names,y.2=.free->∃c,env.cells.lookup y.1=some c)->forIn names acc f=pure (dS env names acc):=by
  intro names
  induction names with
  | nil=>intro acc f hf _;rw[DG];rfl
  | cons y r ih =>
   intro acc f hf hh;obtain ⟨n,k⟩:=y;rw[MR,hf];unfold dS;by_cases hk:(k == NameKind.free)=true
   ·obtain ⟨c,hc⟩:=hh (n,k) dt (by simpa using hk);have hc':env.cells.lookup n=some c:=hc;have e:cellOf env n=pure c:=by unfold cellOf;rw[hc']
    rw[if_pos hk,if_pos hk,e,hc'];simp only[pure_bind,Option.getD_some];exact ih _ f hf λy hy=>hh y (ck _ hy)
   ·rw[if_neg hk,if_neg hk];simp only[pure_bind];exact ih _ f hf λy hy=>hh y (ck _ hy)
 simp only[closureFor];rw[gen scope.names [] _ (λname kind cells=>by cases hkc:kind == NameKind.free <;> simp [hkc]) h];rfl
theorem fq:∀(names:List (Str×NameKind)) (n:Nat) (acc:List (Str×Addr)),cellsFrom n names acc=cellsFrom n names []++acc
 | [],_,_=>rfl
 | (x,k) :: r,n,acc=>by
  unfold cellsFrom
  split
  ·rw[fq r (n+1) (_ :: acc),fq r (n+1) [_],cz];rfl
  ·exact fq r n acc
theorem j8:∀(names:List (Str×NameKind)) (n:Nat) {x:Str} {c:Addr},(x,c)∈cellsFrom n names []->(x,NameKind.cell)∈names
 | [],_,_,_,h=>nomatch h
 | (y,k) :: r,n,x,c,h=>by
  unfold cellsFrom at h
  split at h
  ·rename_i hk
   have ek:k=.cell:=by simpa using hk
   subst ek;rw[fq] at h;rcases az.mp h with h | h
   ·exact ck _ (j8 r _ h)
   ·have e:(x,c)=(y,n):=by simpa using h
    cases e;exact dt
  ·exact ck _ (j8 r _ h)
def yA (env:Env) (scope:Scope) (C:Addr):Env :=
 { scope:=relabel scope env,locals:=C,globals:=env.globals,cells:=cellsFrom (C+1) scope.names (dS env scope.names []),qual:=env.qual,func:=none,code:=env.code,frame:=env.frame,builtins:=env.builtins }
theorem F4 
  (h:Q (newEnv scope s.heap.objs.size g (cellsFrom (s.heap.objs.size+1) scope.names cl) qual none .none (some env) builtinsNs) { s with heap:=pushCells (s.heap.push { cls:=.type "dict",data:=.dict #[] }) scope.names }) :
  wpAny M A (newFunctionEnv scope g cl [] qual none .none (some env)) Q E s:=by
 simp only[newFunctionEnv,Option.isSome_some,if_true];refine wpAny_bind (wpAny_alloc ?_);refine wpAny_bind (wpAny_layCells _ (λname kind cells=>by cases hkc:kind == NameKind.cell <;> simp [hkc]) _ _ _ _ ?_);rw[show ({ s with heap:=s.heap.push { cls:=.type "dict",data:=.dict #[] } }:Shared).heap.objs.size=s.heap.objs.size+1 from Heap.size_push ..];rw[DG];exact wpAny_bind (wpAny_pure (wpAny_pure h))
theorem vB:∀{k:NameKind},(relabel scope env).names.lookup x=some k->∃k0,scope.names.lookup x=some k0/\(k=k0\/(k0=.free/\k=.cell)):=by
 unfold relabel;show ∀{k:NameKind},(scope.names.map λ(n,k)=>if (k == NameKind.free && env.scope.kind == .function && env.kindOf n == some .cell) then (n,NameKind.cell) else (n,k)).lookup x=some k->_
 induction scope.names with
 | nil=>intro k h;cases h
 | cons y r ih =>
  intro k h;obtain ⟨n,k1⟩:=y;rw[gN,ka] at h;rw[ka];by_cases hc:(k1 == NameKind.free && env.scope.kind == .function && env.kindOf n == some .cell)=true
  ·simp only[hc,if_true] at h;cases hb:x == n with
   | true =>
    simp only[hb] at h
    have e1:k1=.free:=by
     rw[dP,dP] at hc;simpa using hc.1.1
    cases h;exact ⟨k1,rfl,.inr ⟨e1,rfl⟩⟩
   | false=>simp only[hb] at h;exact ih h
  ·have hc':(k1 == NameKind.free && env.scope.kind == .function && env.kindOf n == some .cell)=false:=by simpa using hc
   simp only[hc',iG,if_false] at h;cases hb:x == n with
   | true=>simp only[hb] at h;cases h;exact ⟨_,rfl,.inl rfl⟩
   | false=>simp only[hb] at h;exact ih h
theorem FV:scope.names.lookup x=some .free->(relabel scope env).names.lookup x=some .cell\/(relabel scope env).names.lookup x=some .free:=by
 unfold relabel;show _->(scope.names.map λ(n,k)=>if (k == NameKind.free && env.scope.kind == .function && env.kindOf n == some .cell) then (n,NameKind.cell) else (n,k)).lookup x=some .cell\/(scope.names.map λ(n,k)=>if (k == NameKind.free && env.scope.kind == .function && env.kindOf n == some .cell) then (n,NameKind.cell) else (n,k)).lookup x=some .free
 induction scope.names with
 | nil=>intro h;cases h
 | cons y r ih =>
  intro h;obtain ⟨n,k1⟩:=y;rw[ka] at h;rw[gN];by_cases hc:(k1 == NameKind.free && env.scope.kind == .function && env.kindOf n == some .cell)=true
  ·simp only[hc,if_true,ka];cases hb:x == n with
   | true=>exact .inl rfl
   | false=>rw[hb] at h;exact ih h
  ·have hc':(k1 == NameKind.free && env.scope.kind == .function && env.kindOf n == some .cell)=false:=by simpa using hc
   simp only[hc',iG,if_false,ka];cases hb:x == n with
   | true=>rw[hb] at h;cases h;exact .inr rfl
   | false=>rw[hb] at h;exact ih h
structure Bz where
 s:Shared
 H:Hp
 fp:List Addr
 C:Addr
def zS (X:Cx) (own capN:List Str) (scope:Scope) (Z:Bz):Cx where
 prog:=X.prog
 w:=X.w
 K:=X.K
 mg:=X.mg
 base:=X.base
 A:=X.A
 N:=own++capN
 s₀:=Z.s
 H₀:=Z.H
 env:=yA X.env scope Z.C
 outer:=X.stack
 stack:=X.stack
 ex:=Z.fp
 fn:=λx=>own.contains x
 calm:=true
 pn:=[]
 xe:=λ_ _=>False
section
variable {X:Cx} {pins:List (Addr×Obj)} {σ:St} {own capN:List Str} {scope:Scope} {Z:Bz}
theorem iT (B:Bk X.env scope own capN) (I:Inv X pins σ Z.H Z.s) (h:(yA X.env scope Z.C).cells.lookup x=some c) :
  (x∈own/\(x,c)∈cellsFrom (Z.C+1) scope.names [])\/(x∈capN/\x∉own/\X.env.cells.lookup x=some c):=by
 have h':(cellsFrom (Z.C+1) scope.names (dS X.env scope.names [])).lookup x=some c:=h;rw[fq] at h';rcases az.mp (mem_of_lookup h') with m | m
 ·exact .inl ⟨(B.cells _ (j8 _ _ m) rfl).1,m⟩
 ·obtain ⟨m1,e⟩:=qo _ _ m;obtain ⟨q1,q2⟩:=B.frees _ m1 rfl;obtain ⟨d,hd⟩:=I.ok.has x (B.caps x q1);rw[hd] at e;exact .inr ⟨q1,q2,by rw[hd,e];rfl⟩
theorem Ol (B:Bk X.env scope own capN) (I:Inv X pins σ Z.H Z.s) (hx:x∈capN) (h:X.env.cells.lookup x=some c):(yA X.env scope Z.C).cells.lookup x=some c:=by
 have hm:(x,NameKind.free)∈scope.names:=mem_of_lookup (B.capf x hx);obtain ⟨c1,m1⟩:=qq X.env scope.names hm
 have hs:∃d,(yA X.env scope Z.C).cells.lookup x=some d:=by
  show ∃d,(cellsFrom (Z.C+1) scope.names (dS X.env scope.names [])).lookup x=some d
  rw[fq];exact iJ (bR _ m1)
 obtain ⟨d,hd⟩:=hs;rcases iT B I hd with ⟨q,m⟩ | ⟨_,_,q⟩
 ·exact absurd hx (B.cells _ (j8 _ _ m) rfl).2
 ·rw[h] at q;cases q;exact hd
theorem Kc (h:Heap) (C:Addr) (hC:h.objs.size=C+1) (names:List (Str×NameKind)):CellsOk (pushCells h names) (C+1) (cellsFrom (C+1) names []):=by
 have q:=cellsFrom_ok names h (C+1) [] ⟨λ_ _ hm=>(nomatch hm),List.Pairwise.nil⟩ (by rw[hC];exact aj _);rwa [hC] at q
theorem E5 (I:Inv X pins σ Z.H Z.s) (h:X.env.cells.lookup x=some c):@LT.lt Nat instLTNat c Z.s.heap.objs.size:=by
 obtain ⟨v,q⟩:=I.cell x c h;exact q.lt
theorem QR (I:Inv X pins σ Z.H Z.s) (hc:X.calm=true) (B:Bk X.env scope own capN) (hC:Z.s.heap.objs.size<=Z.C) (hcl:CellsOk h1 (Z.C+1) (cellsFrom (Z.C+1) scope.names []))
  (hf:∀b∈Z.fp,jQ X pins Z.H b/\@LT.lt Nat instLTNat b Z.s.heap.objs.size):(zS X own capN scope Z).Ok:=by
 refine ⟨I.ok.mod,B.kind,I.ok.glob,I.ok.blt,hC,λx y c h1 h2=>?_,λx hx=>?_,λx c hx h=>?_,λ_=>I.ok.hd hc,I.ok.frames,.inl rfl,λb hb=>⟨?_,λx c h=>?_⟩,I.bs,ai I.ok.bsz I.sz,λb o e hb=>?_,λb hb hz=>?_,I.stack,I.stkFree⟩
 ·rcases iT B I h1 with ⟨q1,m1⟩ | ⟨q1,n1,m1⟩ <;> rcases iT B I h2 with ⟨q2,m2⟩ | ⟨q2,n2,m2⟩
  ·exact name_of_addr hcl.apart m1 m2
  ·have l1:=(hcl.empty _ _ m1).2;have l2:=E5 I m2
   lia
  ·have l1:=(hcl.empty _ _ m2).2;have l2:=E5 I m1
   lia
  ·exact I.ok.inj x y c m1 m2
 ·have hx':(relabel scope X.env).names.lookup x=some .cell\/(relabel scope X.env).names.lookup x=some .free:=hx
  have hk:scope.names.lookup x=some .cell\/scope.names.lookup x=some .free:=by
   rcases hx' with h | h
   ·obtain ⟨k0,e,q | ⟨q,_⟩⟩:=vB h
    ·exact .inl (by rw[e,<- q])
    ·exact .inr (by rw[e,q])
   ·obtain ⟨k0,e,q | ⟨_,q⟩⟩:=vB h
    ·exact .inr (by rw[e,<- q])
    ·cases q
  show ∃c,(cellsFrom (Z.C+1) scope.names (dS X.env scope.names [])).lookup x=some c
  rcases hk with h | h
  ·exact Rj.mp (Ac scope.names (Z.C+1) _ (.inl h))
  ·obtain ⟨c,m⟩:=qq X.env scope.names (mem_of_lookup h);rw[fq];exact iJ (bR _ m)
 ·have ho:x∈own:=by have hx':own.contains x=true:=hx;simpa using hx'
  rcases iT B I h with ⟨_,m⟩ | ⟨_,n,_⟩
  ·have:=(hcl.empty _ _ m).2;have hC':Z.s.heap.objs.size<=Z.C:=hC;show Z.s.heap.objs.size<=c
   lia
  ·exact absurd ho n
 ·intro e;have e':@Eq Nat b Z.C:=e;have:=(hf b hb).2
  lia
 ·have l:=(hf b hb).2;rcases iT B I h with ⟨_,m⟩ | ⟨_,_,m⟩
  ·intro e;have e':@Eq Nat c b:=e;have:=(hcl.empty _ _ m).2
   lia
  ·exact (hf b hb).1.2.2.2.2.1 x c m
 ·obtain ⟨_,_,_,f3,_⟩:=(hf b hb).1;rcases f3 with f3 | f3
  ·exact I.ok.noex b o e f3
  ·exact absurd (bJ (Heap.lt_size e) (ai I.ok.bsz f3)) (dW _)
 ·obtain ⟨_,f1,f2,_⟩:=(hf b hb).1;rcases aG.mp (I.stkSub b hz) with e | e
  ·exact f1 e
  ·exact f2 e
def Hv (k:Nat) (cap:List Nat) (σ:St):St:=List.replicate k none++cap.map λj=>(σ[j]?).join
def zG (X:Cx) (capN:List Str) (cap:List Nat):Prop:=cap.map (λj=>X.N[j]?)=capN.map some
theorem zG.get (h:zG X capN cap) {i:Nat} (e:capN[i]?=some x):∃j,cap[i]?=some j/\X.N[j]?=some x:=by
 have q:=congrArg (λl=>l[i]?) h;simp only[aD,e,Option.map_some] at q;cases hc:cap[i]? with
 | none=>rw[hc] at q;cases q
 | some j=>rw[hc] at q;exact ⟨j,rfl,by simpa using q⟩
theorem GG (I:Inv X pins σ Z.H Z.s) (B:Bk X.env scope own capN) (hcap:zG X capN cap)
  (kc:∀x c,X.env.cells.lookup x=some c->∀v,Z.s.heap.IsCell c v->h'.IsCell c v) {i:Nat} (e1:(own++capN)[i]?=some x) (e2:(Hv own.length cap σ)[i]?=some (some v)) :
  ∃u,RelV v u/\Look (yA X.env scope Z.C) h' m x u:=by
 have hi:own.length<=i:=by
  by_cases hi:own.length<=i
  ·exact hi
  ·exfalso
   unfold Hv at e2;rw[cx (by simpa using hi),dq] at e2
   split at e2 <;> cases e2
 rw[bW hi] at e1;unfold Hv at e2;rw[bW (by simpa using hi),bw,aD] at e2;obtain ⟨j,hj,hN⟩:=hcap.get e1;rw[hj] at e2;have e3:(σ[j]?).join=some v:=by simpa using e2
 have e4:σ[j]?=some (some v):=by
  cases q:σ[j]? with
  | none=>rw[q] at e3;cases e3
  | some o=>rw[q] at e3;simp at e3;rw[e3]
 have hx:x∈capN:=ar e1;have hk:=B.caps x hx;obtain ⟨m0,_,hl⟩:=I.loc;obtain ⟨u,r,l⟩:=hl j x v hN e4 (.inr hk);refine ⟨u,r,.inr ⟨FV (B.capf x hx),?_⟩⟩;rcases l with ⟨hk2,_⟩ | ⟨_,c,hc,z⟩
 ·rcases hk with hk | hk
  ·rw[hk] at hk2;cases hk2
  ·rw[hk] at hk2;cases hk2
 ·exact ⟨c,Ol B I hx hc,kc x c hc _ z⟩
theorem SD (I:Inv X pins σ Z.H Z.s) (h:b∈Kz X.stack):@LT.lt Nat instLTNat b Z.s.heap.objs.size:=by
 obtain ⟨_,o,ho,_⟩:=I.stack.mem h;exact Heap.lt_size ho
theorem Oi {D:Addr} (I:Inv X pins σ Z.H Z.s) (hc:X.calm=true) (B:Bk X.env scope own capN) (hcap:zG X capN cap) (hC:Z.s.heap.objs.size<=Z.C)
  (hcl:CellsOk h1 (Z.C+1) (cellsFrom (Z.C+1) scope.names [])) (hf:∀b∈Z.fp,jQ X pins Z.H b/\@LT.lt Nat instLTNat b Z.s.heap.objs.size)
  (hk:∀b o,Z.s.heap.get? b=some o->h1.get? b=some o) (hn:h1.Ns Z.C λ_=>none) (hD:Z.s.heap.objs.size<=D) (hDC:D≠Z.C) (hoD:h1.get? D=some oD) (hdD:∀v,oD.data≠.cell v) :
  Inv (zS X own capN scope Z) [(D,oD)] (Hv own.length cap σ) Z.H { Z.s with heap:=h1,toks:=t1 }:=by
 refine ⟨QR I hc B hC hcl hf,rfl,I.bare,Un.kept hk,⟨_,hn,λi x v e1 e2 _=>GG I B hcap (λx c _ v z=>z.keeps hk) e1 e2⟩,λx c h=>?_,I.hok.fresh hC,λx c h=>?_,λp hp=>?_,I.hok.kept hk,?_⟩
 ·rcases iT B I h with ⟨_,m⟩ | ⟨_,_,m⟩
  ·exact ⟨none,(hcl.empty _ _ m).1⟩
  ·obtain ⟨v,q⟩:=I.cell x c m;exact ⟨v,q.keeps hk⟩
 ·rcases iT B I h with ⟨_,m⟩ | ⟨_,_,m⟩
  ·exact I.hok.fresh (by have:=(hcl.empty _ _ m).2;lia)
  ·exact I.freeC x c m
 ·have e:p=(D,oD):=by simpa [zS] using hp
  subst e;exact ⟨hoD,I.hok.fresh hD,hDC,λz=>dW _ (bJ (SD I z) hD),hdD⟩
 ·show (Hv own.length cap σ).length=(own++capN).length
  have:=congrArg List.length hcap;simp only[ag] at this;unfold Hv;simp [this]
theorem MG {σ':St} (I:Inv X pins σ Z.H Z.s) (B:Bk X.env scope own capN) (hcap:zG X capN cap) (hf:∀b∈Z.fp,jQ X pins Z.H b/\@LT.lt Nat instLTNat b Z.s.heap.objs.size)
  (J:Inv (zS X own capN scope Z) pins' σ' H' s'):Inv (zS X own capN scope Z) pins' (Hv own.length cap σ) H' s':=by
 refine ⟨J.ok,J.os,J.bare,J.base,?_,J.cell,J.free,J.freeC,J.pin,J.hok,?_⟩
 ·obtain ⟨m,hn,_⟩:=J.loc;refine ⟨m,hn,λi x v e1 e2 _=>GG I B hcap (λx c hx v z=>?_) e1 e2⟩;obtain ⟨o,ho,hd⟩:=z;obtain ⟨sl,e⟩:=J.base.any ho (I.freeC x c hx) λz=>(hf c z).1.2.2.2.2.1 x c hx rfl
  exact ⟨_,e,hd⟩
 ·show (Hv own.length cap σ).length=(own++capN).length
  have:=congrArg List.length hcap;simp only[ag] at this;unfold Hv;simp [this]
theorem Oj {σ':St} {D:Addr} (I:Inv X pins σ Z.H Z.s) (hf:∀b∈Z.fp,jQ X pins Z.H b/\@LT.lt Nat instLTNat b Z.s.heap.objs.size) (hD:Z.s.heap.objs.size<=D)
  (J:Inv (zS X own capN scope Z) [(D,{ cls:=.type "list",data:=.seq its.toArray n })] σ' H' s') (r:cQ ys its) (hz:ys.length<=sizeLine) :
  Inv X pins σ (upd H' D (.lst ys)) s':=by
 have pD:=J.pin (D,{ cls:=.type "list",data:=.seq its.toArray n }) (by simp);have ne:∀{b:Addr} {o:Obj},Z.s.heap.get? b=some o->b≠D:=λe z=>by subst z;exact dW _ (bJ (Heap.lt_size e) hD)
 have nt:∀{b:Addr} {u:HO},H' b=some u->b≠D:=λe z=>by rw[z,pD.2.1] at e;cases e
 refine I.call' (ch:=Z.fp) J.os ⟨J.base.keep,J.base.slot,λb o e h hx=>?_,J.base.there,λb xs e=>?_,λb o u e=>?_,λb ps e=>?_⟩ (λb u e=>?_) J.bare λb hb=>?_
 ·rw[bN (ne e)];exact J.base.free b o e h hx
 ·have q:=J.base.tups b xs e;rw[bN (nt q)];exact q
 ·have q:=J.base.frzs b o u e;rw[bN (nt q)];exact q
 ·obtain ⟨more,q⟩:=J.base.tbls b ps e;exact ⟨more,by rw[bN (nt q)];exact q⟩
 ·by_cases hb:b=D
  ·subst hb;rw[aM] at e;cases e;exact ⟨hz,its,n,r,pD.1⟩
  ·rw[bN hb] at e;exact (J.hok b u e).stay (λc v _ q=>q) (λc q=>by rw[bN (nt q)];exact q) λc xs q=>by rw[bN (nt q)];exact q
 ·obtain ⟨_,f1,_,f3,f4,f5⟩:=(hf b hb).1;exact ⟨f3,f1,f4,f5⟩
end
theorem Po {t:Sem α} {Q Q':α->Shared->Prop} (h:wpAny M A t Q (λ_ _=>False) s) (hQ:∀a s,Q a s->Q' a s):wpAny M A t Q' E s :=
 wpAny_mono h hQ λ_ _ z=>False.elim z
theorem E4 (I:Nat->Shared->Prop)
  (turn:∀(E:Value->Shared->Prop) n s,I n s->wpAny (model prog w) A (pyNext it) (λr s₁=>match r with
   | none=>R (.ok .next) s₁
   | some v=>wpAny (model prog w) A (letOwnedTupleGo target it v) (λ_ s₂=>wpAny (model prog w) A (assign target env v) (λ_ s₃ =>
     wpAny (model prog w) A (forIn ifs true λc r=>if r=true then do let ok <- isTrue c env (eval c env);pure (ForInStep.yield ok) else pure (ForInStep.yield r)) (λok s₄ =>
      if ok=true then wpAny (model prog w) A (eval elt env) (λx s₅=>wpAny (model prog w) A (call (.builtin "list.append") [acc,x]) (λ_ s₆=>∃m,m < n/\I m s₆) E s₅) E s₄
      else ∃m,m < n/\I m s₄) E s₃) E s₂) E s₁) E s)
  (n:Nat) (h:I n s):codeAny (model prog w) A (.compLoop (.ListComp elt [⟨target,iter,ifs,0⟩] scope pos) 0 it acc env) R s:=by
 refine codeAny_loop rfl I (λn s hI=>?_) n h;show wpAny _ A ((compTurn (.ListComp elt [⟨target,iter,ifs,0⟩] scope pos) 0 it acc env).onRaise (λx=>do noteFrame x env;theTreesLotGoes x)) _ _ s
 refine wpAny_noted ?_;rw[compTurn_list];refine wpAny_bind (wpAny_standAt (wpAny_bind (wpAny_mono (turn _ n s hI) (λr s₁ h₁=>?_) λ_ _ h'=>h')));cases r with
 | none=>exact wpAny_pure h₁
 | some v =>
  refine wpAny_bind (wpAny_mono h₁ (λ_ s₂ h₂=>wpAny_bind (wpAny_mono h₂ (λ_ s₃ h₃=>wpAny_bind (wpAny_mono h₃ (λok s₄ h₄=>?_) λ_ _ h'=>h')) λ_ _ h'=>h')) λ_ _ h'=>h');cases ok with
  | false=>exact wpAny_pure ⟨rfl,h₄⟩
  | true =>
   exact wpAny_bind (wpAny_bind (wpAny_mono h₄ (λx s₅ h₅=>wpAny_bind (wpAny_mono h₅ (λ_ s₆ h₆=>wpAny_pure (wpAny_pure ⟨rfl,h₆⟩)) λ_ _ h'=>h')) λ_ _ h'=>h'))
def PF (X:Cx) (ifs:List Expr) (t:TT):Prop :=
 ∀(pins:List (Addr×Obj)) (s:Shared) (σ:St) (H:Hp) (Q:Bool->Hp->Prop),Inv X pins σ H s->t σ H Q →
  wpAny (model X.prog X.w) X.A (forIn ifs true λc r=>if r=true then do let ok <- isTrue c X.env (eval c X.env);pure (ForInStep.yield ok) else pure (ForInStep.yield r)) (TP X pins σ Q) X.xe s
def Rv:TT:=λ_ H Q=>Q true H
theorem cm:PF X [] Rv:=λ_ _ _ H _ I h=>wpAny_tests_nil ⟨H,I,h⟩
theorem HJ (h:PT X c t):PF X [c] t:=λpins s σ H Q I hw=>wpAny_tests_one (h pins s σ H Q I hw)
def qV (σ₀:St) (g:TG) (tf:TT) (te:TE) (x:V) (H:Hp) (NY:V->Hp->Prop) (NN:Hp->Prop):Prop :=
 g x σ₀ H λσ2 H2=>tf σ2 H2 λb H3=>if b=true then te σ2 H3 NY else NN H3
def sY (J:It) (σ₀:St) (g:TG) (tf:TT) (te:TE) (Q:VK) (H1:Hp):Prop :=
 ∃W:Nat->Nat->List V->Hp->Prop,(∃m,W 0 m [] H1)/\∀i m ys H,W i m ys H →
  (J.stop i H/\ys.length<=sizeLine/\∀p,H p=none->Q (.ref p) (upd H p (.lst ys))) \/
  (J.go i H/\ys.length < sizeLine/\∃(NY:V->Hp->Prop) (NN:Hp->Prop),(∀y H',NY y H'->∃m',m' < m/\W (i+1) m' (ys++[y]) H')/\(∀H',NN H'->∃m',m' < m/\W (i+1) m' ys H') /\
   ∀x H',J.yld i H x H'->qV σ₀ g tf te x H' NY NN)
def Fp (wi:TI) (k:Nat) (cap:List Nat) (g:TG) (tf:TT) (te:TE):TE:=λσ H Q=>wi σ H λJ H1=>sY J (Hv k cap σ) g tf te Q H1
abbrev lobj (its:List Value) (n:Nat):Obj:={ cls:=.type "list",data:=.seq its.toArray n }
section
variable {X:Cx} {own capN:List Str} {cap:List Nat} {scope:Scope} {elt tg iter:Expr} {ifs:List Expr} {pos:Pos} {wi:TI} {g:TG} {tf:TT} {te:TE}
theorem Dd (hc:X.calm=true) (B:Bk X.env scope own capN) (hcap:zG X capN cap)
  (hi:PI X tg iter wi) (hg:∀Z,PG (zS X own capN scope Z) tg g) (hf:∀Z,PF (zS X own capN scope Z) ifs tf) (he:∀Z,PE (zS X own capN scope Z) elt te)
  (hs:∀x,foldedSetIterable iter X.env x=pure x) {σ:St} (I:Inv X pins σ H s) (h:Fp wi own.length cap g tf te σ H Q)
  (fin:∀(D C:Addr) (s':Shared) (H':Hp),Inv X pins σ H' s'->jQ X pins H' C->(∃m,s'.heap.Ns C m)->Q (.ref D) H'->compPost (model X.prog X.w) X.A X.xe use Qe (.ref D) C (.ok .next) s') :
  wpAny (model X.prog X.w) X.A (comprehension (.ListComp elt [⟨tg,iter,ifs,0⟩] scope pos) scope X.env fpos (newList []) false (eval iter X.env) use) Qe X.xe s:=by
 refine wpAny_comprehension_free (use:=use) rfl hs (Bu λy hy hk=>I.ok.has y.1 (B.caps _ (B.frees y hy hk).1)) B.kind B.locs ?_;refine fY (hi pins s σ H _ I h) λv s1 h1=>fY h1 λitv s2 h2=>?_
 obtain ⟨it,fp,tn,J,H2,e,I2,T,st2,f2,W,⟨m0,w0⟩,turn⟩:=h2;subst e;have hfp:∀b∈fp,jQ X pins H2 b/\@LT.lt Nat instLTNat b s2.heap.objs.size:=λb hb=>⟨f2 b hb,let ⟨_,e,_⟩:=T.obj _ _ st2 b hb;Heap.lt_size e⟩
 refine wpAny_newObj_type (F4 ?_) (bL _);have es:(s2.heap.push { cls:=.type "list",data:=.seq ([]:List Value).toArray }).objs.size=s2.heap.objs.size+1:=Heap.size_push ..
 show codeAny _ _ (.compStart _ 0 (.ref it) (.ref s2.heap.objs.size) { newEnv scope (s2.heap.push { cls:=.type "list",data:=.seq ([]:List Value).toArray }).objs.size X.env.globals (cellsFrom ((s2.heap.push { cls:=.type "list",data:=.seq ([]:List Value).toArray }).objs.size+1) scope.names (dS X.env scope.names [])) X.env.qual none .none (some X.env) builtinsNs with scope:=relabel scope X.env })
  (compPost (model X.prog X.w) X.A X.xe use Qe (.ref s2.heap.objs.size) (s2.heap.push { cls:=.type "list",data:=.seq ([]:List Value).toArray }).objs.size)
  { s2 with heap:=pushCells ((s2.heap.push { cls:=.type "list",data:=.seq ([]:List Value).toArray }).push { cls:=.type "dict",data:=.dict #[] }) scope.names }
 have hk1:∀b o,(s2.heap.push { cls:=.type "list",data:=.seq ([]:List Value).toArray }).get? b=some o->(pushCells ((s2.heap.push { cls:=.type "list",data:=.seq ([]:List Value).toArray }).push { cls:=.type "dict",data:=.dict #[] }) scope.names).get? b=some o :=
  λb o e=>pushCells_keeps _ _ _ _ (Heap.get?_push_of_some _ e)
 have hk:∀b o,s2.heap.get? b=some o->(pushCells ((s2.heap.push { cls:=.type "list",data:=.seq ([]:List Value).toArray }).push { cls:=.type "dict",data:=.dict #[] }) scope.names).get? b=some o:=λb o e=>hk1 b o (Heap.get?_push_of_some _ e)
 have hoD:=hk1 s2.heap.objs.size _ (Heap.get?_push_size s2.heap (o:={ cls:=.type "list",data:=.seq ([]:List Value).toArray }) rfl);have hn:=(Heap.Ns.new (s2.heap.push { cls:=.type "list",data:=.seq ([]:List Value).toArray }) (.type "dict")).keeps (pushCells_keeps scope.names _);have hcl:=Kc ((s2.heap.push { cls:=.type "list",data:=.seq ([]:List Value).toArray }).push { cls:=.type "dict",data:=.dict #[] }) (s2.heap.objs.size+1) (by rw[Heap.size_push,es]) scope.names;rw[es] at hn ⊢;generalize pushCells ((s2.heap.push { cls:=.type "list",data:=.seq ([]:List Value).toArray }).push { cls:=.type "dict",data:=.dict #[] }) scope.names=h3 at hk hoD hn hcl ⊢;have Z:Bz:=⟨s2,H2,fp,s2.heap.objs.size+1⟩
 have I3:Inv (zS X own capN scope ⟨s2,H2,fp,s2.heap.objs.size+1⟩) [(s2.heap.objs.size,lobj [] 0)] (Hv own.length cap σ) H2 { s2 with heap:=h3 } :=
  Oi (Z:=⟨s2,H2,fp,s2.heap.objs.size+1⟩) (t1:=s2.toks) I2 hc B hcap (mM _) hcl hfp hk hn (aj _) (cU (eH _)) hoD (λv z=>nomatch z)
 have st3:tn 0 h3:=T.keep _ _ _ st2 λb _ o e=>hk b o e
 have loop:codeAny (model X.prog X.w) X.A (.compLoop (.ListComp elt [⟨tg,iter,ifs,0⟩] scope pos) 0 (.ref it) (.ref s2.heap.objs.size) (yA X.env scope (s2.heap.objs.size+1))) (compPost (model X.prog X.w) X.A X.xe use Qe (.ref s2.heap.objs.size) (s2.heap.objs.size+1)) { s2 with heap:=h3 }:=by
  refine E4 (λm s'=>∃i ys σ' H' its n,Inv (zS X own capN scope ⟨s2,H2,fp,s2.heap.objs.size+1⟩) [(s2.heap.objs.size,lobj its n)] σ' H' s'/\tn i s'.heap/\(∀b∈fp,H' b=none)/\cQ ys its/\W i m ys H') ?_ m0
   ⟨0,[],_,H2,[],0,I3,st3,λb hb=>(f2 b hb).1,.nil,w0⟩
  rintro E n s4 ⟨i,ys,σ4,H4,its,k,I4,st4,fr4,rv,w4⟩
  have fpo:∀{pp:List (Addr×Obj)} {H':Hp},(∀p∈pp,p.1=s2.heap.objs.size)->(∀b∈fp,H' b=none)->∀b∈fp,jQ (zS X own capN scope ⟨s2,H2,fp,s2.heap.objs.size+1⟩) pp H' b:=λ{pp H'} hpp hn b hb=>by
   obtain ⟨e1,e2⟩:=I4.ok.exf b hb;refine ⟨hn b hb,e1,I4.ok.exfs b hb,.inl hb,e2,λp hp=>?_⟩;have hp':p∈pp:=by simpa [zS] using hp
   have l:=(hfp b hb).2;rw[hpp p hp'];exact λz=>dW _ (by rw[<- z] at l;exact l)
  have pinD:∀{its:List Value} {n:Nat},∀p∈[(s2.heap.objs.size,lobj its n)],p.1=s2.heap.objs.size:=λp hp=>by simp at hp;rw[hp]
  rcases turn i n ys H4 w4 with ⟨stop,hz,q⟩ | ⟨go,hlt,NY,NN,hNY,hNN,step⟩
  ·refine fY (T.done (zS X own capN scope ⟨s2,H2,fp,s2.heap.objs.size+1⟩) rfl rfl rfl rfl i _ s4 σ4 H4 E I4 (fpo pinD fr4) st4 stop) λr s5 ⟨hr,I5⟩=>?_
   subst hr;have pD:=I5.pin (s2.heap.objs.size,lobj its k) (by simp);have I6:=Oj (Z:=⟨s2,H2,fp,s2.heap.objs.size+1⟩) I2 hfp (aj _) I5 rv hz
   have hC:upd H4 s2.heap.objs.size (.lst ys) (s2.heap.objs.size+1)=none:=by
    rw[bN (JN (eH _))];exact I5.free
   obtain ⟨m,hm,_⟩:=I5.loc;exact fin _ _ s5 _ I6 (I2.fpOk (mM _) hC) ⟨m,hm⟩ (q _ pD.2.1)
  ·refine fY (T.item (zS X own capN scope ⟨s2,H2,fp,s2.heap.objs.size+1⟩) rfl rfl rfl rfl i _ s4 σ4 H4 E I4 (fpo pinD fr4) st4 go) λr s5 ⟨u,hr,h5⟩=>?_
   subst hr;refine fY h5 λ_ s6 ⟨x,H6,I6,r6,y6,st6,fr6⟩=>?_
   have I6':=(MG (Z:=⟨s2,H2,fp,s2.heap.objs.size+1⟩) I2 B hcap hfp I6).pinned (fpo pinD fr6) (T.obj _ _ st6)
   have back:∀{σ7:St} {H7:Hp} {s7:Shared},Inv (zS X own capN scope ⟨s2,H2,fp,s2.heap.objs.size+1⟩) ([(s2.heap.objs.size,lobj its k)]++AG fp s6.heap) σ7 H7 s7 →
     Inv (zS X own capN scope ⟨s2,H2,fp,s2.heap.objs.size+1⟩) [(s2.heap.objs.size,lobj its k)] σ7 H7 s7/\tn (i+1) s7.heap/\∀b∈fp,H7 b=none:=λ{σ7 H7 s7} I7=>by
    refine ⟨I7.unpinned,T.keep _ _ _ st6 λb hb o e=>(I7.pin (b,o) (bR _ (bR _ (p7 hb e)))).1,λb hb=>?_⟩;obtain ⟨o,e,d⟩:=T.obj _ _ st6 b hb;exact (I7.pin (b,o) (bR _ (bR _ (p7 hb e)))).2.1
   refine Po (hg _ _ s6 _ H6 x u _ I6' r6 (step x H6 y6)) λ_ s7 ⟨σ7,H7,I7,q7⟩=>?_
   refine Po (hf _ _ s7 σ7 H7 _ I7 q7) λok s8 ⟨H8,I8,q8⟩=>?_
   cases ok with
   | false =>
    rw[if_neg bu] at q8 ⊢;obtain ⟨m',hm,w8⟩:=hNN H8 q8;obtain ⟨J1,J2,J3⟩:=back I8;exact ⟨m',hm,i+1,ys,σ7,H8,its,k,J1,J2,J3,rv,w8⟩
   | true =>
    rw[if_pos rfl] at q8 ⊢;refine Po (he _ _ s8 σ7 H8 _ I8 q8) λz s9 ⟨y,H9,I9,r9,q9⟩=>?_
    obtain ⟨J1,J2,J3⟩:=back I9;obtain ⟨m',hm,w9⟩:=hNY y H9 q9;have pD:=J1.pin (s2.heap.objs.size,lobj its k) (by simp);have hl:=rv.length;refine call_meets F.slot_list_append ⟨_,pD.1,rfl⟩ F.entry_list_append (F.args_list_append_2 _ _) (PySem.list_append s2.heap.objs.size its.toArray k z (by rw[aQ];lia)) ⟨pD.1,?_⟩;have e9:=j9 pD.1 (λa=>a.push z);have e9':(its.toArray.push z)=(its++[z]).toArray:=by simp
    rw[e9'] at e9;obtain ⟨n',e9⟩:∃n',(s9.heap.update s2.heap.objs.size (Obj.mapSeq λa=>a.push z)).get? s2.heap.objs.size=some (lobj (its++[z]) n'):=⟨_,e9⟩
    have J4:Inv (zS X own capN scope ⟨s2,H2,fp,s2.heap.objs.size+1⟩) [] σ7 H9 { s9 with heap:=s9.heap.update s2.heap.objs.size (Obj.mapSeq λa=>a.push z),toks:=s9.toks } :=
     (J1.pins_of (pins':=[]) λp hp=>nomatch hp).turned (λb o hb e=>(Heap.get?_update_other s9.heap _ (Ne.symm hb)).trans e) pD.2.1 pD.2.2.1 (.inr (aj _)) (λx c hx z=>by
      rcases iT (Z:=⟨s2,H2,fp,s2.heap.objs.size+1⟩) B I2 hx with ⟨_,m⟩ | ⟨_,_,m⟩
      ·have:=(hcl.empty _ _ m).2;have z':@Eq Nat c s2.heap.objs.size:=z
       lia
      ·have:=E5 (Z:=⟨s2,H2,fp,s2.heap.objs.size+1⟩) I2 m;rw[z] at this;exact dW _ this) λp hp=>by simp [zS] at hp
    have nfp:∀b∈fp,b≠s2.heap.objs.size:=λb hb z=>by have:=(hfp b hb).2;rw[z] at this;exact dW _ this
    refine ⟨m',hm,i+1,ys++[y],σ7,H9,its++[z],n',J4.pins_of λp hp=>?_,T.keep _ _ _ J2 λb hb o e=>(Heap.get?_update_other s9.heap _ (Ne.symm (nfp b hb))).trans e,J3,rv.append (.cons r9 .nil),w9⟩;have ep:p=(s2.heap.objs.size,lobj (its++[z]) n'):=by simpa using hp
    rw[ep];exact ⟨e9,pD.2.1,pD.2.2.1,pD.2.2.2.1,λv z=>nomatch z⟩
 exact codeAny_compStart_list loop (T.self _ _ _ _ _ st3 loop)
theorem cf (own capN:List Str) (cap:List Nat) (hi:PI X tg iter wi) (hg:∀Z,PG (zS X own capN scope Z) tg g) (hf:∀Z,PF (zS X own capN scope Z) ifs tf) (he:∀Z,PE (zS X own capN scope Z) elt te)
  (h1:S5 scope own capN=true:=by decide +kernel) (h2:Dg X.env capN=true:=by rfl) (hcap:zG X capN cap:=by rfl) (hc:X.calm=true:=by rfl) (hs:∀x,foldedSetIterable iter X.env x=pure x:=by intro _;rfl) :
  PE X (.ListComp elt [⟨tg,iter,ifs,0⟩] scope pos) (Fp wi own.length cap g tf te):=by
 intro pins s σ H Q I h;rw[eval_ListComp];refine Dd (use:=none) hc (Bk.of h1 h2) hcap hi hg hf he hs I h λD C s' H' I' fC hm q=>?_
 obtain ⟨m,hm⟩:=hm;refine ⟨m,hm,λh' hs'=>?_⟩;obtain ⟨f0,f1,f2,f3,f4,f5⟩:=fC;exact ⟨.ref D,H',I'.turned (t':=s'.toks) (λb o hb e=>(hs'.2 b hb).trans e) f0 f1 f3 f4 f5,rfl,q⟩
theorem gG (i:Nat) (own capN:List Str) (cap:List Nat) {x:Str} {pos' spos:Pos} (hN:X.N.Nodup) (hi':X.N[i]?=some x) (hx:X.env.scope.names.lookup x=some .local) (hi:PI X tg iter wi) (hg:∀Z,PG (zS X own capN scope Z) tg g) (hf:∀Z,PF (zS X own capN scope Z) ifs tf) (he:∀Z,PE (zS X own capN scope Z) elt te)
  (h1:S5 scope own capN=true:=by decide +kernel) (h2:Dg X.env capN=true:=by rfl) (hcap:zG X capN cap:=by rfl) (hc:X.calm=true:=by rfl) (hs:∀x,foldedSetIterable iter X.env x=pure x:=by intro _;rfl)
  (hsw:swapsWith (.ListComp elt [⟨tg,iter,ifs,0⟩] scope pos) (some (.Name x pos')) spos.line X.env=pure true:=by rfl) :
  PS X (.Assign [.Name x pos'] (.ListComp elt [⟨tg,iter,ifs,0⟩] scope pos) spos) (MW (Fp wi own.length cap g tf te) (Jo i)):=by
 intro pins s σ H D I h;rw[exec_Assign_Name_used _ _ _ _ hsw];refine wpAny_bind (wpAny_standAt (wpAny_bind ?_));rw[arm_evalThenUse_ListComp];refine wpAny_bind (Dd (Q:=λv H1=>D.nx (σ.set i (some v)) H1) (use:=some _) hc (Bk.of h1 h2) hcap hi hg hf he hs I h λL C s' H' I' fC hm q=>?_);obtain ⟨m,hm⟩:=hm;obtain ⟨f0,f1,f2,f3,f4,f5⟩:=fC;refine wpAny_assign_Name (Cq I' hN hi' (.inl hx) (v:=.ref L) rfl (λs'' I'' ⟨a,sb,ha⟩=>?_) (.inr hx))
 have hCa:C≠a:=by
  rcases ha with e | e
  ·rw[e];exact f1
  ·exact (f4 x a e).symm
 refine ⟨m,hm.at' λo e=>(sb.2 C hCa).trans e,λh' hs'=>?_⟩;have I3:=I''.turned (h':=h') (t':=s''.toks) (λb o hb e=>(hs'.2 b hb).trans e) f0 f1 f3 f4 f5;exact wpAny_pure (wpAny_pure ⟨_,H',I3,q⟩)
end
section
variable {K:FG9} {a:Addr} {xs:List V} {g:TG} {tf:TT} {te:TE} {Q:VK} {σ₀:St} {H:Hp}
theorem dJ (Pv:Nat->List V->Hp->Prop) (hz:xs.length<=sizeLine) (h0:Pv 0 [] H) (hl:∀i ys H,i<=xs.length->Pv i ys H->bU K H a xs)
  (hs:∀i x ys H,xs[i]?=some x->ys.length<=i->Pv i ys H->qV σ₀ g tf te x H (λy H'=>Pv (i+1) (ys++[y]) H') (λH'=>Pv (i+1) ys H'))
  (hd:∀ys H,ys.length<=xs.length->Pv xs.length ys H->∀p,H p=none->Q (.ref p) (upd H p (.lst ys))):sY (Ow K a) σ₀ g tf te Q H:=by
 refine ⟨λi m ys H=>m=xs.length - i/\i<=xs.length/\ys.length<=i/\Pv i ys H,⟨xs.length,by simp,bL _,bL _,h0⟩,?_⟩;rintro i m ys H ⟨rfl,hi,hy,p⟩;have q:=hl i ys H hi p;by_cases hlt:i < xs.length
 ·refine .inr ⟨⟨xs,xs[i],q,by simp [hlt]⟩,by lia,λy H'=>Pv (i+1) (ys++[y]) H',λH'=>Pv (i+1) ys H',λy H' p'=>⟨xs.length - (i+1),by lia,rfl,hlt,by rw[av,bH];lia,p'⟩,λH' p'=>⟨xs.length - (i+1),by lia,rfl,hlt,by lia,p'⟩,λx H' y=>?_⟩;obtain ⟨e,y⟩:=y;subst e;exact hs i x ys _ (y xs q) hy p
 ·have e:i=xs.length:=by lia
  subst e;exact .inl ⟨⟨xs,q,aj _⟩,by lia,hd ys H hy p⟩
theorem mK {lo:Int} (Pv:Nat->List V->Hp->Prop) (hz:n<=sizeLine) (h0:Pv 0 [] H)
  (hs:∀i ys H,i < n->ys.length<=i->Pv i ys H->qV σ₀ g tf te (.int (lo+i)) H (λy H'=>Pv (i+1) (ys++[y]) H') (λH'=>Pv (i+1) ys H'))
  (hd:∀ys H,ys.length<=n->Pv n ys H->∀p,H p=none->Q (.ref p) (upd H p (.lst ys))):sY (GV lo n) σ₀ g tf te Q H:=by
 refine ⟨λi m ys H=>m=n - i/\i<=n/\ys.length<=i/\Pv i ys H,⟨n,by simp,bL _,bL _,h0⟩,?_⟩;rintro i m ys H ⟨rfl,hi,hy,p⟩;by_cases hlt:i < n
 ·refine .inr ⟨hlt,by lia,λy H'=>Pv (i+1) (ys++[y]) H',λH'=>Pv (i+1) ys H',λy H' p'=>⟨n - (i+1),by lia,rfl,hlt,by rw[av,bH];lia,p'⟩,λH' p'=>⟨n - (i+1),by lia,rfl,hlt,by lia,p'⟩,λx H' y=>?_⟩;obtain ⟨e,y⟩:=y;subst e y;exact hs i ys _ hlt hy p
 ·have e:i=n:=by lia
  subst e;exact .inl ⟨aj _,by lia,hd ys H hy p⟩
end
open Nm
def fQ (i j:Int):Prop:=Q2 i j\/∃m n,Sz m i/\Sz n j/\m+n<=1000000
def oQ (i j:Int):Prop:=j≠0/\Sz 8999 j
theorem Bw (h:Sz k i):Builtin.Int.intBits i<=k:=by
 unfold Builtin.Int.intBits;by_cases e:i=0
 ·subst e;simp
 ·have e':(i == 0)=false:=by simpa using e
  rw[e'];have hn:i.natAbs≠0:=by lia
  have:=(Nat.log2_lt hn).mpr h;simp only[iG,if_false]
  lia
theorem fQ.ok (h:fQ i j):IntMulOk i j:=by
 rcases h with h | ⟨m,n,h1,h2,h3⟩
 ·exact h.ok
 ·have e:(2:Nat)^20=1048576:=by decide
  exact .of_bits (by have:=Bw h1;lia) (by have:=Bw h2;lia)
section
variable {X:Cx} {a b:Expr} {ta tb:TE} {pos:Pos}
theorem cZ:yD X (binaryOp .Mult) (rI fQ λi j=>.int (i*j)):=S3 λ_ _ _ _ _ _ _ hc q=>mul_int q hc.ok
theorem iw:yD X (binaryOp .FloorDiv) (rI oQ λi j=>.int (i.fdiv j)):=S3 λi j _ _ _ _ _ hc q=>by
 refine floordiv_int hc.1 q (.inl (PyProof.noPylong_of_log2 ?_));have hn:j.natAbs≠0:=by have:=hc.1;lia
 have:=(Nat.log2_lt hn).mpr hc.2
 lia
def RA (t u:TS):TS:=λD σ H=>∃N:St->Hp->Prop,t { D with nx:=N } σ H/\∀σ' H',N σ' H'->u D σ' H'
theorem iN {st:Stmt} (h1:PS X st t) (h2:Io X rest u):Io X (st :: rest) (RA t u):=by
 intro pins s σ H D I h;obtain ⟨N,h,k⟩:=h;refine wpAny_execs_cons (fY (h1 pins s σ H { D with nx:=N } I h) λf s1 q=>?_);cases f with
 | next =>
  obtain ⟨σ',H',I',q⟩:=q;exact h2 pins s1 σ' H' D I' (k _ _ q)
 | ret v=>exact q
 | brk=>exact q
 | cont=>exact q
def OR (K:FG9):V->V->Hp->VK->Prop:=λo i H Q=>∃p xs k v,o=.ref p/\i=.int k/\bU K H p xs/\Ii xs k=some v/\Q v H
theorem Me:SM X (OR X.K):=by
 intro pins s σ H o i ov iv Q I ro ri h;obtain ⟨p,xs,k,z,rfl,rfl,hq,he,q⟩:=h;cases ro;obtain ⟨t,rfl⟩:=ri;obtain ⟨its,r,pl,hz⟩:=I.list hq;obtain ⟨j,h1,h2,h3,h4,h5⟩:=E6 he;obtain ⟨w,ew,rw'⟩:=r.get h2;have hl:=r.length;have hn:=A4;have fin:EP X pins σ Q w s:=⟨z,H,I,rw',q⟩;by_cases h0:0<=k
 ·have hj:k.toNat=j:=by
   rw[seqIndex_of h0 h5] at h1;exact cv h1
  exact wpAny_getItem_list pl.isList h0 (by lia) (by rw[hj];simpa using ew) fin
 ·have hj:(k+(its.toArray.size:Int)).toNat=j:=by
   rw[seqIndex_neg (by lia) h4] at h1;rw[aQ,<- hl];exact cv h1
  exact wpAny_getItem_list_neg pl.isList (by lia) (by rw[aQ] <;> lia) (by lia) (by rw[hj];simpa using ew) fin
def J9 (K:FG9) (T:String):V->Hp->VK->Prop:=λx H Q=>∃t b,va K H x t/\PySem.W.kitOne K t (.type T)=some b/\Q (.bl b) H
theorem ye {c:Str} {T:String} {p p2:Pos} (hg:Gl X "isinstance") (hm:X.mg "isinstance"=none) (hb:bootBuiltins c=some (.type T)) (hmc:X.mg c=none) (ha:PE X a ta) (hgc:Gl X c:=by rfl) (hn:c≠"__name__":=by decide)
  (hd:(c == ("__debug__":Str))=false:=by decide) (he:starEach [a,.Name c p2] X.env=[(false,eval a X.env),(false,eval (.Name c p2) X.env)]:=by rfl)
  (hpl:(backTo pos (starEach [.Name c p2] X.env)).any (·.1)=false:=by rfl) (he2:starEach [.Name c p2] X.env=[(false,eval (.Name c p2) X.env)]:=by rfl):PE X (.Call (.Name "isinstance" p) [a,.Name c p2] [] pos) (Rw (J9 X.K T) ta):=by
 intro pins s σ H Q I h;refine wpAny_Call_Name_kw (jo I hg hm PyProof.Rows.boot_isinstance ?_);have hA:PA X [a,.Name c p2] (lY ta (lY (tC (.ty T)) DP)):=ae ha (ae (IZ hgc hmc hb rfl hn hd) ak he2) (by rw[he,he2])
 have hq:lY ta (lY (tC (.ty T)) DP) σ H (λvs H1=>∃x,vs=[x,.ty T]/\J9 X.K T x H1 Q):=by
  show ta σ H λx H1=>∃x',[x,V.ty T]=[x',V.ty T]/\J9 X.K T x' H1 Q
  have e:(λx H1=>∃x',[x,V.ty T]=[x',V.ty T]/\J9 X.K T x' H1 Q)=λx H1=>J9 X.K T x H1 Q:=by
   funext x H1;apply propext;constructor
   ·rintro ⟨x',e,q⟩;cases e;exact q
   ·intro q;exact ⟨x,rfl,q⟩
  rw[e];exact h
 refine PyProof.Rows.callWith_builtin1 (fY (hA pos pins s σ H _ I hq) λus s1 ⟨vs,H1,I1,r1,x,e,q1⟩=>?_) (by rw[he,he2]) hpl;subst e;obtain ⟨u,w',rfl,ru,rt⟩:=vals2 r1;cases rt;obtain ⟨t,bb,ty,ek,q⟩:=q1;exact yt I1 ru ty ek λtk=>⟨.bl bb,H1,I1.tok tk,rfl,q⟩
end
structure Kind (α:Type) [DecidableEq α] where
 R:FG9->Hp->V->α->Prop
 d:Nat
 inj:∀{X:Cx} {pins:List (Addr×Obj)} {σ:St} {H:Hp} {s:Shared} {x:V} {a b:α},Inv X pins σ H s->R X.K H x a->R X.K H x b->a=b
 rc:∀{X:Cx} {pins:List (Addr×Obj)} {σ:St} {H:Hp} {s:Shared} {x y:V} {v u:Value} {a b:α} {A:Around},Inv X pins σ H s->RelV x v->RelV y u->R X.K H x a->R X.K H y b->A.units+d < cLine->SeqAt.RcAt A s v u (decide (a=b))
 ne:∀{X:Cx} {pins:List (Addr×Obj)} {σ:St} {H:Hp} {s:Shared} {x y:V} {v u:Value} {a b:α} {A:Around},Inv X pins σ H s->RelV x v->RelV y u->R X.K H x a->R X.K H y b->A.units+d < cLine->SeqAt.RcNeAt A s v u (!decide (a=b))
 eq:∀{X:Cx} {pins:List (Addr×Obj)} {σ:St} {H:Hp} {s:Shared} {x y:V} {v u:Value} {a b:α} {A:Around},Inv X pins σ H s->RelV x v->RelV y u->R X.K H x a->R X.K H y b->A.units+d < cLine->SeqAt.EqAt A s v u (decide (a=b))
def Kl:Kind Int where
 R:=λ_ _ x i=>x=.int i
 d:=0
 inj:=λ_ h1 h2=>by rw[h1] at h2;cases h2;rfl
 rc:=λ{X pins σ H s x y v u a b A} I rx ry h1 h2 _=>by
  subst h1 h2;obtain ⟨t,rfl⟩:=rx;obtain ⟨t',rfl⟩:=ry;have q:=SeqAt.RcAt.int_int (A:=A) (s:=s) a t b t';rwa [BS] at q
 ne:=λ{X pins σ H s x y v u a b A} I rx ry h1 h2 _=>by
  subst h1 h2;obtain ⟨t,rfl⟩:=rx;obtain ⟨t',rfl⟩:=ry;have q:=SeqAt.RcNeAt.int_int (A:=A) (s:=s) a t b t';rwa [BS] at q
 eq:=λ{X pins σ H s x y v u a b A} I rx ry h1 h2 _=>by
  subst h1 h2;obtain ⟨t,rfl⟩:=rx;obtain ⟨t',rfl⟩:=ry;have q:=SeqAt.EqAt.int_int (A:=A) (s:=s) a t b t';rwa [BS] at q
theorem jI {α β:Type} {F:α->β->Prop}:∀{l1:List α} {l2:List β} {i:Nat} (_:Paired F l1 l2) (h1:i < l1.length) (h2:i < l2.length),F l1[i] l2[i]
 | _,_,_,.nil,h1,_=>absurd h1 (fj _)
 | _,_,0,.cons r _,_,_=>r
 | _,_,i+1,.cons _ t,h1,h2=>jI (i:=i) t (Nat.lt_of_succ_lt_succ h1) (Nat.lt_of_succ_lt_succ h2)
theorem me {α β:Type} {F:α->β->Prop} (hF:∀a b x,F a x->F b x->a=b):∀{l1 l2:List α} {l:List β},Paired F l1 l->Paired F l2 l->l1=l2
 | _,_,_,.nil,.nil=>rfl
 | _,_,_,.cons r t,.cons r' t'=>by rw[hF _ _ _ r r',me hF t t']
theorem vW {α:Type} [DecidableEq α] (as bs:List α) (h:as.length=bs.length):(List.range as.length).all (λj=>decide (as[j]?=bs[j]?))=decide (as=bs):=by
 rw[lI,oS,decide_eq_true_iff];constructor
 ·intro q;apply jw;intro i;by_cases hi:i < as.length
  ·exact of_decide_eq_true (q i (nB.mpr hi))
  ·rw[aS (by lia),aS (by lia)]
 ·rintro rfl i _;simp
section
variable {α:Type} [DecidableEq α] (k:Kind α)
theorem Kind.items {X:Cx} {pins:List (Addr×Obj)} {σ:St} {H:Hp} {s:Shared} {A:Around} (I:Inv X pins σ H s) (hA:A.units+k.d < cLine) {xs ys:List V} {us ws:List Value} {as bs:List α}
  (rx:cQ xs us) (ry:cQ ys ws) (ha:Paired (λa x=>k.R X.K H x a) as xs) (hb:Paired (λa x=>k.R X.K H x a) bs ys) :
  ∀j (h1:j < us.toArray.size) (h2:j < ws.toArray.size),SeqAt.EqAt A s us.toArray[j] ws.toArray[j] (decide (as[j]?=bs[j]?)):=λj h1 h2=>by
 have l1:j < us.length:=by simpa using h1
 have l2:j < ws.length:=by simpa using h2
 have e1:=rx.length;have e2:=ry.length;have e3:=ha.length;have e4:=hb.length;obtain ⟨u,hu,ru⟩:=rx.get (i:=j) (x:=xs[j]'(by lia)) (by simp);obtain ⟨w,hw,rw'⟩:=ry.get (i:=j) (x:=ys[j]'(by lia)) (by simp);have q:=k.eq (A:=A) I ru rw' (jI ha (by lia) (by lia)) (jI hb (by lia) (by lia)) hA
 have eu:us.toArray[j]=u:=by
  have:=hu;rw[af l1] at this;simpa using this
 have ew:ws.toArray[j]=w:=by
  have:=hw;rw[af l2] at this;simpa using this
 rw[eu,ew,af (show j < as.length by lia),af (show j < bs.length by lia)];have e5:decide (some as[j]=some bs[j])=decide (as[j]=bs[j]):=by simp
 rw[e5];exact q
theorem DM {α:Type} [DecidableEq α] (as bs:List α) {n m:Nat} (h1:as.length=n) (h2:bs.length=m):((List.range (min n m)).all (λj=>decide (as[j]?=bs[j]?)) && n == m)=decide (as=bs):=by
 subst h1 h2;by_cases e:as.length=bs.length
 ·rw[show min as.length bs.length=as.length by lia,vW as bs e];simp [e]
 ·have h1:(as.length == bs.length)=false:=by simpa using e
  rw[h1,Bool.and_false];exact (decide_eq_false λz=>e (by rw[z])).symm
def Ti:Kind (List α) where
 R:=λK H x as=>∃p xs,x=.ref p/\mP K H p xs/\Paired (λa x=>k.R K H x a) as xs
 d:=k.d+1
 inj:=λ{X pins σ H s x a b} I h1 h2=>by
  obtain ⟨p,xs,rfl,hp,pa⟩:=h1;obtain ⟨q,ys,e,hq,pb⟩:=h2;cases e;have e:=I.tuple_inj hp hq;subst e;exact me (F:=λa x=>k.R X.K H x a) (λa b x=>k.inj I) pa pb
 rc:=λ{X pins σ H s x y v u a b A} I rx ry h1 h2 hA=>by
  obtain ⟨p,xs,rfl,hp,pa⟩:=h1;obtain ⟨q,ys,rfl,hq,pb⟩:=h2;cases rx;cases ry;obtain ⟨us,r1,t1,_⟩:=I.tuple hp;obtain ⟨ws,r2,t2,_⟩:=I.tuple hq;have z:=SeqAt.RcAt.tuples (A:=A) (e:=λj=>decide (a[j]?=b[j]?)) (show s.heap.IsTuple p us.toArray from t1) (show s.heap.IsTuple q ws.toArray from t2) (by lia) (k.items (A:=A.in1) I (by show A.units+1+k.d < cLine;lia) r1 r2 pa pb);rwa [DM a b (by rw[pa.length,r1.length];simp) (by rw[pb.length,r2.length];simp)] at z
 ne:=λ{X pins σ H s x y v u a b A} I rx ry h1 h2 hA=>by
  obtain ⟨p,xs,rfl,hp,pa⟩:=h1;obtain ⟨q,ys,rfl,hq,pb⟩:=h2;cases rx;cases ry;obtain ⟨us,r1,t1,_⟩:=I.tuple hp;obtain ⟨ws,r2,t2,_⟩:=I.tuple hq;have z:=SeqAt.RcNeAt.tuples (A:=A) (e:=λj=>decide (a[j]?=b[j]?)) (show s.heap.IsTuple p us.toArray from t1) (show s.heap.IsTuple q ws.toArray from t2) (by lia) (k.items (A:=A.in1) I (by show A.units+1+k.d < cLine;lia) r1 r2 pa pb);rwa [DM a b (by rw[pa.length,r1.length];simp) (by rw[pb.length,r2.length];simp)] at z
 eq:=λ{X pins σ H s x y v u a b A} I rx ry h1 h2 hA=>by
  obtain ⟨p,xs,rfl,hp,pa⟩:=h1;obtain ⟨q,ys,rfl,hq,pb⟩:=h2;cases rx;cases ry;by_cases e:p=q
  ·subst e;have e:=I.tuple_inj hp hq;subst e;rw[me (F:=λa x=>k.R X.K H x a) (λa b x=>k.inj I) pa pb,decide_eq_true rfl];exact SeqAt.EqAt.same _
  ·obtain ⟨us,r1,t1,_⟩:=I.tuple hp;obtain ⟨ws,r2,t2,_⟩:=I.tuple hq;have z:=SeqAt.RcAt.tuples (A:=A) (e:=λj=>decide (a[j]?=b[j]?)) (show s.heap.IsTuple p us.toArray from t1) (show s.heap.IsTuple q ws.toArray from t2) (by lia) (k.items (A:=A.in1) I (by show A.units+1+k.d < cLine;lia) r1 r2 pa pb);rw[DM a b (by rw[pa.length,r1.length];simp) (by rw[pb.length,r2.length];simp)] at z;exact .of_refs e z
theorem HX {X:Cx} {pins:List (Addr×Obj)} {σ:St} {H:Hp} {s:Shared} {p q:Addr} {xs ys:List V} {a b:List α} {A:Around} (I:Inv X pins σ H s) (hp:bU X.K H p xs) (hq:bU X.K H q ys)
  (pa:Paired (λa x=>k.R X.K H x a) a xs) (pb:Paired (λa x=>k.R X.K H x a) b ys) (hA:A.units+(k.d+1) < cLine) :
  SeqAt.RcAt A s (.ref p) (.ref q) (decide (a=b))/\SeqAt.RcNeAt A s (.ref p) (.ref q) (!decide (a=b)):=by
 obtain ⟨us,r1,t1,_⟩:=I.list hp;obtain ⟨ws,r2,t2,_⟩:=I.list hq;have l1:=r1.length;have l2:=r2.length;have l3:=pa.length;have l4:=pb.length;by_cases e:us.length=ws.length
 ·have it:=k.items (A:=A.in1) I (by show A.units+1+k.d < cLine;lia) r1 r2 pa pb;have z:=SeqAt.RcAt.lists (A:=A) (e:=λj=>decide (a[j]?=b[j]?)) t1.isList t2.isList (by simpa using e) (by lia) it;have z2:=SeqAt.RcNeAt.lists (A:=A) (e:=λj=>decide (a[j]?=b[j]?)) t1.isList t2.isList (by simpa using e) (by lia) it;have e1:us.toArray.size=a.length:=by rw[aQ];lia
  rw[e1,vW a b (by lia)] at z z2;exact ⟨z,z2⟩
 ·have hne:¬a=b:=λz=>e (by have:=congrArg List.length z;lia)
  rw[decide_eq_false hne];exact ⟨SeqAt.RcAt.lists_lengths t1.isList t2.isList (by simpa using e) (by lia),SeqAt.RcNeAt.lists_lengths t1.isList t2.isList (by simpa using e) (by lia)⟩
def Kk:Kind (List α) where
 R:=λK H x as=>∃p xs,x=.ref p/\bU K H p xs/\Paired (λa x=>k.R K H x a) as xs
 d:=k.d+1
 inj:=λ{X pins σ H s x a b} I h1 h2=>by
  obtain ⟨p,xs,rfl,hp,pa⟩:=h1;obtain ⟨q,ys,e,hq,pb⟩:=h2;cases e;have e:=I.list_inj hp hq;subst e;exact me (F:=λa x=>k.R X.K H x a) (λa b x=>k.inj I) pa pb
 rc:=λ{X pins σ H s x y v u a b A} I rx ry h1 h2 hA=>by
  obtain ⟨p,xs,rfl,hp,pa⟩:=h1;obtain ⟨q,ys,rfl,hq,pb⟩:=h2;cases rx;cases ry;exact (HX k I hp hq pa pb hA).1
 ne:=λ{X pins σ H s x y v u a b A} I rx ry h1 h2 hA=>by
  obtain ⟨p,xs,rfl,hp,pa⟩:=h1;obtain ⟨q,ys,rfl,hq,pb⟩:=h2;cases rx;cases ry;exact (HX k I hp hq pa pb hA).2
 eq:=λ{X pins σ H s x y v u a b A} I rx ry h1 h2 hA=>by
  obtain ⟨p,xs,rfl,hp,pa⟩:=h1;obtain ⟨q,ys,rfl,hq,pb⟩:=h2;cases rx;cases ry;by_cases e:p=q
  ·subst e;have e:=I.list_inj hp hq;subst e;rw[me (F:=λa x=>k.R X.K H x a) (λa b x=>k.inj I) pa pb,decide_eq_true rfl];exact SeqAt.EqAt.same _
  ·exact .of_refs e (HX k I hp hq pa pb hA).1
def Kind.via {β:Type} [DecidableEq β] (f:β->α) (fi:∀a b,f a=f b->a=b) (R':FG9->Hp->V->β->Prop) (im:∀{K H x b},R' K H x b->k.R K H x (f b)):Kind β where
 R:=R'
 d:=k.d
 inj:=λI h1 h2=>fi _ _ (k.inj I (im h1) (im h2))
 rc:=λ{X pins σ H s x y v u a b A} I rx ry h1 h2 hA=>by
  have z:=k.rc (A:=A) I rx ry (im h1) (im h2) hA;rwa [decide_eq_decide.mpr (show f a=f b↔a=b from ⟨fi a b,λe=>by rw[e]⟩)] at z
 ne:=λ{X pins σ H s x y v u a b A} I rx ry h1 h2 hA=>by
  have z:=k.ne (A:=A) I rx ry (im h1) (im h2) hA;rwa [decide_eq_decide.mpr (show f a=f b↔a=b from ⟨fi a b,λe=>by rw[e]⟩)] at z
 eq:=λ{X pins σ H s x y v u a b A} I rx ry h1 h2 hA=>by
  have z:=k.eq (A:=A) I rx ry (im h1) (im h2) hA;rwa [decide_eq_decide.mpr (show f a=f b↔a=b from ⟨fi a b,λe=>by rw[e]⟩)] at z
end
def GO (K:FG9) (H:Hp) (x:V) (n:Int×Int):Prop:=∃p,x=.ref p/\mP K H p [.int n.1,.int n.2]
def So:Kind (Int×Int):=(Ti Kl).via (λn=>[n.1,n.2]) (λa b e=>by cases a;cases b;simp at e;rw[e.1,e.2]) GO λ⟨p,e,h⟩=>⟨p,_,e,h,.cons rfl (.cons rfl .nil)⟩
def Tg (K:FG9):R2:=λx y H Q=>∃(α:Type) (_:DecidableEq α) (k:Kind α) (a b:α),k.d<=50/\k.R K H x a/\k.R K H y b/\Q (.bl (decide (a=b))) H
def Si (K:FG9):R2:=λx y H Q=>∃(α:Type) (_:DecidableEq α) (k:Kind α) (a b:α),k.d<=50/\k.R K H x a/\k.R K H y b/\Q (.bl (!decide (a=b))) H
theorem Ly (hu:X.A.units+50 < cLine):yD X (compareOp .Eq) (Tg X.K):=by
 intro pins s σ H x y v u Q I rx ry h;obtain ⟨α,_,k,a,b,hd,ha,hb,q⟩:=h;exact k.rc (A:=X.A) I rx ry ha hb (by lia) _ _ _ _ ⟨.bl (decide (a=b)),H,I,rfl,q⟩
theorem yg (hu:X.A.units+50 < cLine):yD X (compareOp .NotEq) (Si X.K):=by
 intro pins s σ H x y v u Q I rx ry h;obtain ⟨α,_,k,a,b,hd,ha,hb,q⟩:=h;exact k.ne (A:=X.A) I rx ry ha hb (by lia) _ _ _ _ ⟨.bl (!decide (a=b)),H,I,rfl,q⟩
theorem EN (hr:kI k A):A.units+50 < cLine:=by have:=hr.units;lia
def Inner (H:Hp) (p q:Addr):Prop:=∃a b c:Int,H p=some (.lst [.int a,.int b,.int c,.ref q])
def c5 (p:Addr) (H H':Hp):Prop:=(∀b o,H b=some o->b≠p->H' b=some o)/\∀q,Inner H p q->Inner H' p q
theorem c5.refl (H:Hp):c5 p H H:=⟨λ_ _ h _=>h,λ_ h=>h⟩
theorem c5.trans (a:c5 p H H1) (b:c5 p H1 H2):c5 p H H2:=⟨λc o h n=>b.1 c o (a.1 c o h n) n,λq h=>b.2 q (a.2 q h)⟩
theorem Inner.inj (h:Inner H p q) (h':Inner H p q'):q=q':=by
 obtain ⟨a,b,c,e⟩:=h;obtain ⟨a',b',c',e'⟩:=h';rw[e] at e';have:=HO.lst.inj (cv e');simp at this;exact this.2.2.2
theorem c5.set (h:H p=some (.lst [.int a,.int b,.int c,.ref q])):c5 p H (upd H p (.lst [.int a',.int b',.int c',.ref q])) :=
 ⟨λb u h n=>by rw[bN n];exact h,λq' h'=>by
  rw[(Inner.inj ⟨a,b,c,h⟩ h').symm];exact ⟨a',b',c',aM⟩⟩
theorem aH.upto (h:aH H H'):c5 p H H':=⟨λb o e _=>h b o e,λq ⟨a,b,c,e⟩=>⟨a,b,c,h _ _ e⟩⟩
theorem aH.new (h:H p=Option.none):aH H (upd H p o):=λb u e=>by rw[bN (fo e h)];exact e
theorem aH.sqt {K:FG9} (e:aH H H') (h:mP K H a xs):mP K H' a xs:=by
 rcases h with (h | ⟨o,h⟩) | h
 ·exact .inl (.inl (e _ _ h))
 ·exact .inl (.inr ⟨o,e _ _ h⟩)
 ·exact .inr h
theorem aH.num {K:FG9} (e:aH H H') (h:GO K H x n):GO K H' x n:=by obtain ⟨p,q,r⟩:=h;exact ⟨p,q,e.sqt r⟩
section
variable {σ:St} {H:Hp} {D:Ends}
theorem aP {t:TS} (e:σ0=σ) (h:t D σ H):t D σ0 H:=by rw[e];exact h
theorem PN (h:t { D with nx:=u D } σ H):RC t u D σ H:=h
theorem Nt (h:D.nx σ H):OE D σ H:=h
theorem Qd {g:TG} (h:te σ H λx H1=>g x σ H1 D.nx):MW te g D σ H:=h
theorem Lo (h:Q (σ.set i (some v)) H):Jo i v σ H Q:=h
theorem PR (h:te σ H D.rt):RD te D σ H:=h
theorem P6 (h:c σ H λb H1=>if b=true then t D σ H1 else u D σ H1):RK c t u D σ H:=h
theorem NC (h:te σ H λ_ H1=>D.nx σ H1):OH te D σ H:=h
theorem PU (h:ta σ H λvs H1=>∃v w,vs=[v,w]/\D.nx ((σ.set i (some v)).set j (some w)) H1):RE i j ta D σ H:=h
theorem NH 
  (h:to σ H λo H1=>ti σ H1 λi H2=>tget o i H2 λx H3=>te σ H3 λy H4=>tip x y H4 λz H5=>tset o i z H5 λH6=>D.nx σ H6):OI to ti te tget tip tset D σ H:=h
theorem P0 (h:Q (.int (f i j)) H):ipI f (.int i) (.int j) H Q:=⟨i,j,rfl,rfl,h⟩
theorem P8 {g:TG} (h:wi σ H λJ H1=>∃W:Nat->Nat->St->Hp->Prop,(∃m,W 0 m σ H1)/\∀i m σ H,W i m σ H →
  (J.stop i H/\D.nx σ H)\/(J.go i H/\∃N:St->Hp->Prop,(∀σ' H',N σ' H'->∃m',m' < m/\W (i+1) m' σ' H')/\∀x H',J.yld i H x H'->g x σ H' λσ2 H2=>tb { D with nx:=N,ct:=N,bk:=D.nx } σ2 H2)):RM wi g tb D σ H:=h
variable {Q:VK} {QA:List V->Hp->Prop} {QB:Bool->Hp->Prop}
theorem PL (e:σ[i]?=some (some v)) (h:Q v H):Pq i σ H Q:=⟨v,e,h⟩
theorem Te (h:Q v H):tC v σ H Q:=h
theorem Sd (h:ta σ H λx H1=>tb σ H1 λy H2=>r x y H2 Q):RH r ta tb σ H Q:=h
theorem R5 (h:ta σ H λx H1=>r x H1 Q):Rw r ta σ H Q:=h
theorem Sg {g:Int->Int->V} (h:Q (g i j) H):NK g (.int i) (.int j) H Q:=⟨i,j,rfl,rfl,h⟩
theorem fF {g:Int->Int->V} (hc:C i j) (h:Q (g i j) H):rI C g (.int i) (.int j) H Q:=⟨i,j,rfl,rfl,hc,h⟩
theorem Tf {g:Int->V} (h:Q (g i) H):rU g (.int i) H Q:=⟨i,rfl,h⟩
theorem Qc (h:Q (.bl (decide (i=j))) H):rEq (.int i) (.int j) H Q:=⟨rfl,by
 have e:decide (V.int i=V.int j)=decide (i=j):=by simp
 rw[e];exact h⟩
theorem PY (h:Q (.bl (!decide (i=j))) H):rNe (.int i) (.int j) H Q:=⟨rfl,by
 have e:decide (V.int i=V.int j)=decide (i=j):=by simp
 rw[e];exact h⟩
theorem Nl (h:t σ H λx H'=>∃k,x=.bl k/\QB k H'):OB t σ H QB:=h
theorem R6 (h:t σ H λx H'=>∃k,x=.bl k/\QB k H'):tB t σ H QB:=h
theorem Qf (h:t σ H λc H1=>if c=true then u σ H1 QB else QB false H1):RO t u σ H QB:=h
theorem Sb (h:t σ H λc H1=>if c=true then QB true H1 else u σ H1 QB):tOr t u σ H QB:=h
theorem PV (h:t σ H λc H1=>QB (!c) H1):RI t σ H QB:=h
theorem NI (h:t σ H λx H1=>∃c,x=.bl c/\if c=true then u σ H1 Q else Q (.bl false) H1):OJ t u σ H Q:=h
theorem Nr (h:t σ H λx H1=>∃c,x=.bl c/\Q (.bl (!c)) H1):OD t σ H Q:=h
theorem P7 (h:c σ H λb H1=>if b=true then ta σ H1 Q else tb σ H1 Q):tIf c ta tb σ H Q:=h
theorem PK (h:QB true H):Rv σ H QB:=h
theorem PX (h:QA [] H):DP σ H QA:=h
theorem ND (h:ta σ H λx H1=>tr σ H1 λxs H2=>QA (x :: xs) H2):lY ta tr σ H QA:=h
theorem NG (h:t σ H λvs H1=>sp vs H1 Q E):KS sp [] E t σ H Q:=by
 have e:(λvs H1=>sp (vs++[]) H1 Q E)=λvs H1=>sp vs H1 Q E:=by funext vs H1;rw[qS]
 show t σ H λvs H1=>sp (vs++[]) H1 Q E
 rw[e];exact h
theorem Se (h:t σ H λvs H1=>r vs H1 Q):Td r t σ H Q:=h
theorem HI {K:FG9} (hx:mP K H p xs) (e:Ii xs i=some v) (h:Q v H):Qi K (.ref p) (.int i) H Q:=⟨p,xs,i,v,rfl,rfl,hx,e,h⟩
theorem cA {K:FG9} (hx:bU K H p xs) (e:Ii xs i=some v) (h:Q v H):Qj K (.ref p) (.int i) H Q:=⟨p,xs,i,v,rfl,rfl,hx,e,h⟩
theorem NB {K:FG9} (hx:bU K H p xs) (e:Ii xs i=some v) (h:Q v H):OR K (.ref p) (.int i) H Q:=⟨p,xs,i,v,rfl,rfl,hx,e,h⟩
theorem eX (hx:H p=some (.lst xs)) (e:Ky xs.length i=some j) (ey:xs.set j v=ys) (h:QH (upd H p (.lst ys))):OQ (.ref p) (.int i) v H QH:=⟨p,xs,i,j,rfl,rfl,hx,e,by rw[ey];exact h⟩
theorem Nz (h:to σ H λo H1=>ti σ H1 λi H2=>t o i v H2 λH3=>QS σ H3):Sx to ti t v σ H QS:=h
theorem Lp (h:t v σ H λσ' H'=>u r σ' H' QS):O1 t u (v :: r) σ H QS:=⟨v,r,rfl,h⟩
theorem NA (h:QS σ H):Sy [] σ H QS:=⟨rfl,h⟩
theorem Ny {K:FG9} (hx:mP K H a xs) (hl:xs.length=n) (h:t xs σ H QS):QL K n t (.ref a) σ H QS:=⟨a,xs,rfl,hx,hl,h⟩
theorem Sa (h:te σ H λx H1=>tl σ H1 λl H2=>th σ H2 λu H3=>r x l u H3 Q):tSl r te tl th σ H Q:=h
theorem J7 (h:QO none H):Iv σ H QO:=h
theorem Nq (h:t σ H λx H1=>∃i,x=.int i/\QO (some i) H1):OC t σ H QO:=h
variable {R:It->Hp->Prop} {K:FG9}
theorem Lm (h:tl σ H λx H1=>∃a,x=.ref a/\(∃xs,bU K H1 a xs)/\R (Ow K a) H1):L9 K tl σ H R:=h
theorem Nx (h:tl σ H λx H1=>∃a,x=.ref a/\(∃xs,mP K H1 a xs)/\R (Ri K a) H1):Sv K tl σ H R:=h
theorem Ll (h:ta σ H λvs H1=>∃j:Int,vs=[.int j]/\-(2^62)<=j/\j < 2^62/\R (GV 0 j.toNat) H1):OY ta σ H R:=h
theorem Lk (h:ta σ H λvs H1=>∃i j:Int,vs=[.int i,.int j]/\(-(2^62)<=i/\i < 2^62/\-(2^62)<=j/\j < 2^62)/\R (GV i (j - i).toNat) H1):OX ta σ H R:=h
theorem NF {g:TG} (e:Hv k cap σ=σ₀) (h:wi σ H λJ H1=>sY J σ₀ g tf te Q H1):Fp wi k cap g tf te σ H Q:=by
 unfold Fp;rw[e];exact h
theorem Nk {g:TG} {NY:V->Hp->Prop} (h:g x σ H λσ2 H2=>tf σ2 H2 λb H3=>if b=true then te σ2 H3 NY else NN H3):qV σ g tf te x H NY NN:=h
theorem Sf (h:to σ H λx H1=>Tc K T x H1/\t σ H1 λxs H2=>r x xs H2 Q):tBM K T r to t σ H Q:=h
def SN (Q:VK) (xs:List V) (H:Hp):Prop:=xs.length<=sizeLine/\∀p,H p=none->Q (.ref p) (upd H p (.tup xs))
def SO (Q:VK) (xs:List V) (H:Hp):Prop:=xs.length<=sizeLine/\∀p,H p=none->Q (.ref p) (upd H p (.lst xs))
theorem PM (h:t σ H (SN Q)):Ry t σ H Q:=h
theorem PZ (h:t σ H (SO Q)):RJ t σ H Q:=h
theorem iX (h:Nat.ble n 1000=true):n<=sizeLine:=aT (bO (Nat.le_of_ble_eq_true h))
theorem cF {xs:List V} (h:∀p H',aH H H'->H' p=some (.tup xs)->Q (.ref p) H') (hl:Nat.ble xs.length 1000=true:=by rfl):SN Q xs H :=
 ⟨iX hl,λp hp=>h p _ (aH.new hp) aM⟩
theorem c6 {xs:List V} (h:∀p H',aH H H'->H p=none->H' p=some (.lst xs)->Q (.ref p) H') (hl:Nat.ble xs.length 1000=true:=by rfl):SO Q xs H :=
 ⟨iX hl,λp hp=>h p _ (aH.new hp) hp aM⟩
theorem Ss {A B:Prop} (h:B):if (!true)=true then A else B:=N4 h
theorem Su {A B:Prop} (h:A):if (!false)=true then A else B:=Sr h
def WB (tb:TS) (D:Ends) (Pv:St->Hp->Prop) (μ:St->Hp->Nat) (n:Nat) (σ:St) (H:Hp):Prop:=∃N:St->Hp->Prop,(∀σ' H',N σ' H'->∃m',m' < n/\(m'=μ σ' H'/\Pv σ' H'))/\tb { D with nx:=N,ct:=N,bk:=D.nx } σ H
theorem OP (h:tb { D with nx:=λσ' H'=>Pv σ' H'/\μ σ' H' < n,ct:=λσ' H'=>Pv σ' H'/\μ σ' H' < n,bk:=D.nx } σ H):WB tb D Pv μ n σ H :=
 ⟨_,λσ' H' ⟨p,l⟩=>⟨_,l,rfl,p⟩,h⟩
theorem DI (Pv:St->Hp->Prop) (μ:St->Hp->Nat) (h0:Pv σ H) (hs:∀σ H,Pv σ H->c σ H λb H1=>if b=true then WB tb D Pv μ (μ σ H) σ H1 else D.nx σ H1):KR c tb D σ H:=by
 refine ⟨λm σ H=>m=μ σ H/\Pv σ H,⟨_,rfl,h0⟩,?_⟩;rintro m σ H ⟨rfl,p⟩;exact hs σ H p
end
def ip (H:Hp) (p:Addr):Prop:=∃(q:Addr) (a b c:Int) (cs:List Int),H p=some (.lst [.int a,.int b,.int c,.ref q])/\H q=some (.lst (cs.map V.int))/\0<=a/\0<=c/\c<=(cs.length:Int)/\∀x∈cs,(0:Int)<=x
theorem Kx {H:Hp} {cs:List Int} (hp:H p=some (.lst [.int a,.int b,.int c,.ref q])) (hq:H q=some (.lst (cs.map V.int))):q≠p:=λe=>by
 rw[e,hp] at hq;have h:=HO.lst.inj (cv hq);cases cs with
 | nil=>cases h
 | cons x1 cs=>cases cs with
  | nil=>cases h
  | cons x2 cs=>cases cs with
   | nil=>cases h
   | cons x3 cs=>cases cs with
    | nil=>cases h
    | cons x4 cs=>simp at h
theorem ip.same (h:ip H p) (e:aH H H'):ip H' p:=by obtain ⟨q,a,b,c,cs,h1,h2,r⟩:=h;exact ⟨q,a,b,c,cs,e _ _ h1,e _ _ h2,r⟩
theorem c5.tup {H H':Hp} {p r:Addr} {xs:List V} (u:c5 p H H') (B:ip H p) (h:H r=some (.tup xs)):H' r=some (.tup xs):=by
 obtain ⟨q,a,b,c,cs,h1,_⟩:=B;exact u.1 r _ h λe=>by rw[e,h1] at h;cases h
theorem c5.other (u:c5 p H H') (n:r≠p) (h:H r=some o):H' r=some o:=u.1 r _ h n
theorem ip.inner (h:ip H p):∃q,Inner H p q/\∃xs,H q=some (.lst xs):=by obtain ⟨q,a,b,c,cs,h1,h2,_⟩:=h;exact ⟨q,⟨a,b,c,h1⟩,_,h2⟩
theorem ip.upd (h:ip H p) (hi:Inner H p q) (n1:r≠p) (n2:r≠q):ip (L2.upd H r o) p:=by
 obtain ⟨q',a,b,c,cs,h1,h2,z⟩:=h;have e:q'=q:=Inner.inj ⟨a,b,c,h1⟩ hi;subst e;exact ⟨q',a,b,c,cs,by rw[bN n1.symm];exact h1,by rw[bN n2.symm];exact h2,z⟩
theorem Inner.upd (hi:Inner H p q) (n1:r≠p):Inner (L2.upd H r o) p q:=by obtain ⟨a,b,c,h⟩:=hi;exact ⟨a,b,c,by rw[bN n1.symm];exact h⟩
def Nb:Sp:=λvs H Q _=>∃p n,vs=[.ref p,.int n]/\ip H p/\0 < n/\n < 2^64/\∀v H',0<=v->v < n->ip H' p->c5 p H H'->Q (.int v) H'
inductive K7 (K:FG9) (vs:List V) (H:Hp) (Q:VK) (E9:XK):Prop
 | mk (a:Addr) (ns:List Int):vs=[.ref a]->bU K H a (ns.map V.int)->ns.length<=63->(∀p H',H p=none->ip H' p->aH H H'->Q (.ref p) H')->K7 K vs H Q E9
inductive Am (K:FG9) (vs:List V) (H:Hp) (Q:VK) (E9:XK):Prop
 | mk (a:Addr) (ns:List Int):vs=[.ref a]->bU K H a (ns.map V.int)->ns.length<=63->(∀H',Q (.bl true) H')->Am K vs H Q E9
def PB:Sp:=λvs H Q _=>∃t b,vs=[.int t,.int b]/\0 < b/\Sz 8999 b/\∀r H',aH H H'->H' r=some (.tup [.int (lo t b),.int (hi t b)])->Q (.ref r) H'
def RQ:Sp:=λvs H Q _=>∃a b,vs=[.int a,.int b]/\Q (.int (g a b)) H
def JX:Sp:=λvs H Q _=>∃t b,vs=[.int t,.int b]/\b≠0/\Sz 8999 b/\∀r H',aH H H'->H' r=some (.tup [.int (lo (if b < 0 then -t else t) (if b < 0 then -b else b)),.int (hi (if b < 0 then -t else t) (if b < 0 then -b else b))])->Q (.ref r) H'
def O2 (a b c d:Int):Int:=a*d+c*b
def Mq (a b c d:Int):Int:=a*d - c*b
def Mp (a _b c _d:Int):Int:=a*c
def IQ (K:FG9) (f:Int->Int->Int->Int->Int):Sp:=λvs H Q _=>∃p q a b c d,vs=[.ref p,.ref q]/\mP K H p [.int a,.int b]/\mP K H q [.int c,.int d]/\0 < b/\0 < d/\Sz 4000 a/\Sz 4000 b/\Sz 4000 c/\Sz 4000 d /\
 ∀r H',aH H H'->H' r=some (.tup [.int (lo (f a b c d) (b*d)),.int (hi (f a b c d) (b*d))])->Q (.ref r) H'
def Nd (K:FG9):Sp:=λvs H Q _=>∃p q a b c d,vs=[.ref p,.ref q]/\mP K H p [.int a,.int b]/\mP K H q [.int c,.int d]/\0 < b/\0 < d/\c≠0/\Sz 4000 a/\Sz 4000 b/\Sz 4000 c/\Sz 4000 d /\
 ∀r H',aH H H'->H' r=some (.tup [.int (lo (if c < 0 then 0 - a*d else a*d) (if c < 0 then 0 - b*c else b*c)),.int (hi (if c < 0 then 0 - a*d else a*d) (if c < 0 then 0 - b*c else b*c))])->Q (.ref r) H'
theorem cg {α β:Type} {F:α->β->Prop}:∀{l1 l1':List α} {l2 l2':List β},Paired F l1 l2->Paired F l1' l2'->Paired F (l1++l1') (l2++l2')
 | _,_,_,_,.nil,h=>h
 | _,_,_,_,.cons r t,h=>.cons r (cg t h)
theorem dj {h:Heap} (ha:h.get? a=some o) (hb:h.get? b=some u) (hc:o.cls≠u.cls):a≠b:=λe=>by
 subst e;rw[ha] at hb;cases hb;exact hc rfl
theorem lX (h:a≠b):Value.type a≠Value.type b:=λe=>h (by injection e)
theorem Co {z TI TO i1 i2 l1 l2:Addr} (hz:IsZip h z TI TO f0) (hTI:IsPair h TI (.ref i1) (.ref i2)) (hTO:IsPair h TO a b)
  (h1:h.IsListIter i1 l1 k1) (h2:h.IsListIter i2 l2 k2) (hl1:h.IsList l1 xs) (hl2:h.IsList l2 ys) (hT:TI≠TO) (hi:i1≠i2):ZipApart z TI TO i1 i2 l1 l2:=by
 obtain ⟨o1,g1,c1,_⟩:=h1;obtain ⟨o2,g2,c2,_⟩:=h2;obtain ⟨p1,q1,d1,_⟩:=hl1;obtain ⟨p2,q2,d2,_⟩:=hl2;refine ⟨dj hTI hz ?_,dj hTO hz ?_,dj g1 hz ?_,dj g2 hz ?_,hT,dj hTI g1 ?_,dj hTI g2 ?_,dj hTO g1 ?_,dj hTO g2 ?_,hi,dj q1 hz ?_,dj q1 hTO ?_,dj q1 g1 ?_,dj q1 g2 ?_,dj q2 hz ?_,dj q2 hTO ?_,dj q2 g1 ?_,dj q2 g2 ?_⟩
 all_goals first
  | (rw[d1];first | (rw[c1];exact lX (by decide)) | (rw[c2];exact lX (by decide)) | exact lX (by decide))
  | (rw[d2];first | (rw[c1];exact lX (by decide)) | (rw[c2];exact lX (by decide)) | exact lX (by decide))
  | (rw[c1];exact lX (by decide))
  | (rw[c2];exact lX (by decide))
  | exact lX (by decide)
def QZ (K : FG9) (l1 l2 : Addr) : It :=
  ⟨λi H => ∃ xs ys x y, bU K H l1 xs /\ bU K H l2 ys /\ xs[i]? = some x /\ ys[i]? = some y,
   λi H v H' => ∃ p x y, v = .ref p /\ H p = none /\ H' = upd H p (.tup [x, y]) /\ (∀ xs, bU K H l1 xs → xs[i]? = some x) /\ ∀ ys, bU K H l2 ys → ys[i]? = some y,
   λi H => ∃ xs ys, bU K H l1 xs /\ bU K H l2 ys /\ (xs.length ≤ i \/ ys.length ≤ i)⟩
def tnZ (z TI TO i1 i2 l1 l2:Addr) (i:Nat) (h:Heap):Prop:=IsZip h z TI TO .none/\IsPair h TI (.ref i1) (.ref i2)/\(∃a b,IsPair h TO a b)/\h.IsListIter i1 l1 i/\h.IsListIter i2 l2 i
theorem KN {P:Program} {w:World} {K:FG9} {elts:List Expr} {kk:Nat} {tpos:Pos} (z TI TO i1 i2 l1 l2:Addr) (hT:TI≠TO) (hi:i1≠i2):Turn P w K (.Tuple elts kk tpos) (QZ K l1 l2) [z,TI,TO,i1,i2] z (tnZ z TI TO i1 i2 l1 l2) where
 mem:=by simp
 obj:=λi h st b hb=>by
  obtain ⟨hz,hTI,⟨a,c,hTO⟩,⟨o1,g1,c1,d1⟩,⟨o2,g2,c2,d2⟩⟩:=st;simp only[aG,a8,or_false] at hb;rcases hb with rfl | rfl | rfl | rfl | rfl
  ·exact ⟨_,hz,λv q=>nomatch q⟩
  ·exact ⟨_,hTI,λv q=>nomatch q⟩
  ·exact ⟨_,hTO,λv q=>nomatch q⟩
  ·exact ⟨o1,g1,λv q=>by rw[d1] at q;cases q⟩
  ·exact ⟨o2,g2,λv q=>by rw[d2] at q;cases q⟩
 keep:=λi h h' st k=>by
  obtain ⟨hz,hTI,⟨a,c,hTO⟩,h1,h2⟩:=st;exact ⟨k z (by simp) _ hz,k TI (by simp) _ hTI,⟨a,c,k TO (by simp) _ hTO⟩,h1.at λo e=>k i1 (by simp) o e,h2.at λo e=>k i2 (by simp) o e⟩
 item:=by
  intro X hP hw hK hc i pins s σ H E I hf st hg;subst hP hw hK;obtain ⟨hz,hTI,⟨a,c,hTO⟩,h1,h2⟩:=st;obtain ⟨xs,ys,x,y,qx,qy,ex,ey⟩:=hg;obtain ⟨us,rx,px,_⟩:=I.list qx;obtain ⟨ws,ry,py,_⟩:=I.list qy;obtain ⟨u,eu,ru⟩:=rx.get ex;obtain ⟨v,ev,rv⟩:=ry.get ey;have D:=Co hz hTI hTO h1 h2 px.isList py.isList hT hi;refine wpAny_pyNext_zip_item D hz hTI hTO h1 h2 px.isList py.isList (x:=u) (y:=v) (by simpa using eu) (by simpa using ev) λh' a1 a2 a3 a4 a5 a6 hk=>?_
  refine ⟨_,rfl,wpAny_letOwnedTupleGo_zip a1 λh'' hz'' hs=>?_⟩;have hT0:H s.heap.objs.size=none:=I.hok.fresh (aj _);have zne:s.heap.objs.size≠z:=JN (Heap.lt_size hz)
  have up:∀b o,b∉[z,TO,i1,i2]->s.heap.get? b=some o->h''.get? b=some o:=λb o hb e=>by
   simp only[aG,a8,or_false,not_or] at hb;exact (hs.2 b hb.1).trans (hk b o hb.1 hb.2.1 hb.2.2.1 hb.2.2.2 e)
  have fx:∀b∈[z,TO,i1,i2],jQ X pins H b:=λb hb=>hf b (by
   simp only[aG,a8,or_false] at hb ⊢;rcases hb with rfl | rfl | rfl | rfl <;> simp)
  have nx:∀b o,H b=some o->b∉[z,TO,i1,i2]:=λb o e hb=>by
   have:=(fx b hb).1;rw[this] at e;cases e
  have nT:∀{b:Addr} {o:HO},H b=some o->b≠s.heap.objs.size:=λe q=>by rw[q,hT0] at e;cases e
  have tup:h''.get? s.heap.objs.size=some { cls:=.type "tuple",data:=.seq #[u,v] }:=(hs.2 _ zne).trans a5
  have I2:Inv X pins σ (upd H s.heap.objs.size (.tup [x,y])) { s with heap:=h'' }:=by
   refine I.step (g':=s.gens) (d':=s.drawn) (t':=s.toks) (ch:=[z,TO,i1,i2]) (λb hb=>?_) (λb o _ _ hb e _=>up b o hb e) (λb o _ _ hb e _=>⟨o.slots,up b o hb e⟩) (λb o hb e n=>?_)
    (λb o hb e=>⟨o,up b o hb e⟩) (λb q e=>by rw[bN (nT e)];exact e) (λb o q e=>by rw[bN (nT e)];exact e) (λb q e=>⟨#[],by rw[bN (nT e),e];simp⟩) (λm hm=>?_) (λb o e=>?_) I.bare
   ·obtain ⟨_,f1,_,f3,f4,f5⟩:=fx b hb;exact ⟨f3,f1,f4,f5⟩
   ·rw[bN (cU (Heap.lt_size e))];exact n
   ·obtain ⟨o,es,ep,ho,r⟩:=hm;exact ⟨o,es,ep,up _ o (λz=>(fx _ z).2.1 rfl) ho,r⟩
   ·by_cases hb:b=s.heap.objs.size
    ·subst hb;rw[aM] at e;cases e;exact ⟨iX rfl,[u,v],.cons ru (.cons rv .nil),⟨_,tup,rfl,_,rfl⟩⟩
    ·rw[bN hb] at e;refine (I.hok b o e).stay (λc v' hc q=>up c v' ?_ q) (λc q=>by rw[bN (nT q)];exact q) λc xs q=>by rw[bN (nT q)];exact q
     rcases hc with rfl | hc
     ·exact nx _ _ e
     ·exact nx _ _ hc
  refine ⟨.ref s.heap.objs.size,_,I2,rfl,⟨_,x,y,rfl,hT0,rfl,λxs' q=>by rw[I.list_inj q qx];exact ex,λys' q=>by rw[I.list_inj q qy];exact ey⟩,?_,λb hb=>?_⟩
  ·refine ⟨hz'',(hs.2 _ D.TIz).trans (hk _ _ D.TIz D.TITO D.TIi1 D.TIi2 hTI),⟨_,_,(hs.2 _ D.TOz).trans a2⟩,a3.at λo e=>(hs.2 _ D.i1z).trans e,a4.at λo e=>(hs.2 _ D.i2z).trans e⟩
  ·obtain ⟨o,e,_⟩:∃o,s.heap.get? b=some o/\True:=by
    obtain ⟨o1,g1,_⟩:=h1;obtain ⟨o2,g2,_⟩:=h2;simp only[aG,a8,or_false] at hb;rcases hb with rfl | rfl | rfl | rfl | rfl
    ·exact ⟨_,hz,trivial⟩
    ·exact ⟨_,hTI,trivial⟩
    ·exact ⟨_,hTO,trivial⟩
    ·exact ⟨_,g1,trivial⟩
    ·exact ⟨_,g2,trivial⟩
   rw[bN (cU (Heap.lt_size e))];exact (hf b hb).1
 done:=by
  intro X hP hw hK hc i pins s σ H E I hf st hg;subst hP hw hK;obtain ⟨hz,hTI,⟨a,c,hTO⟩,h1,h2⟩:=st;obtain ⟨xs,ys,qx,qy,hend⟩:=hg;obtain ⟨us,rx,px,_⟩:=I.list qx;obtain ⟨ws,ry,py,_⟩:=I.list qy;have lx:=rx.length;have ly:=ry.length;have D:=Co hz hTI hTO h1 h2 px.isList py.isList hT hi
  refine wpAny_pyNext_zip_end (I.ok.hd hc) D hz hTI hTO h1 h2 px.isList py.isList (by
   rcases hend with q | q
   ·exact .inl (by simp;lia)
   ·exact .inr (by simp;lia)) λh' hk=>⟨rfl,?_⟩
  have up:∀b o,b∉[z,TO,i1,i2]->s.heap.get? b=some o->h'.get? b=some o:=λb o hb e=>by
   simp only[aG,a8,or_false,not_or] at hb;exact hk b o hb.1 hb.2.1 hb.2.2.1 hb.2.2.2 e
  have fx:∀b∈[z,TO,i1,i2],jQ X pins H b:=λb hb=>hf b (by
   simp only[aG,a8,or_false] at hb ⊢;rcases hb with rfl | rfl | rfl | rfl <;> simp)
  have nx:∀b o,H b=some o->b∉[z,TO,i1,i2]:=λb o e hb=>by
   have:=(fx b hb).1;rw[this] at e;cases e
  refine I.step (g':=s.gens) (d':=s.drawn) (t':=s.toks) (ch:=[z,TO,i1,i2]) (λb hb=>?_) (λb o _ _ hb e _=>up b o hb e) (λb o _ _ hb e _=>⟨o.slots,up b o hb e⟩) (λb o hb e n=>n)
   (λb o hb e=>⟨o,up b o hb e⟩) (λb q e=>e) (λb o q e=>e) (λb q e=>⟨#[],by rw[e];simp⟩) (λm hm=>?_) (λb o e=>?_) I.bare
  ·obtain ⟨_,f1,_,f3,f4,f5⟩:=fx b hb;exact ⟨f3,f1,f4,f5⟩
  ·obtain ⟨o,es,ep,ho,r⟩:=hm;exact ⟨o,es,ep,up _ o (λz=>(fx _ z).2.1 rfl) ho,r⟩
  ·refine (I.hok b o e).stay (λc v' hc q=>up c v' ?_ q) (λc q=>q) λc xs q=>q
   rcases hc with rfl | hc
   ·exact nx _ _ e
   ·exact nx _ _ hc
 self:=λ_ _ _ _ _ st h=>wpAny_pyIter_zip st.1 h
section
variable {X:Cx}
def QG (K:FG9) (ta:TA):TI:=λσ H R=>ta σ H λvs H1=>∃l1 l2,vs=[.ref l1,.ref l2]/\(∃xs,bU K H1 l1 xs)/\(∃ys,bU K H1 l2 ys)/\R (QZ K l1 l2) H1
theorem zY {a b:Expr} {ta:TA} {p pos tpos:Pos} {elts:List Expr} {kk:Nat} (hg:Gl X "zip") (hm:X.mg "zip"=none) (ha:PA X [a,b] ta) (hs:starEach [a,b] X.env=[(false,eval a X.env),(false,eval b X.env)]:=by rfl) (hs2:starEach [b] X.env=[(false,eval b X.env)]:=by rfl) :
  PI X (.Tuple elts kk tpos) (.Call (.Name "zip" p) [a,b] [] pos) (QG X.K ta):=by
 intro pins s σ H R I h;refine Call_ (jo I hg hm boot_zip (PyProof.Rows.callWith_type1 (fY (ha pos pins s σ H _ I h) λus s1 ⟨vs,H1,I1,r1,q1⟩=>?_) (by rw[hs,hs2]) (by rw[hs2];rfl)));obtain ⟨l1,l2,e,⟨xs,qx⟩,⟨ys,qy⟩,q⟩:=q1;subst e;obtain ⟨u,v,rfl,ru,rv⟩:=vals2 r1;cases ru;cases rv;obtain ⟨us,rx,px,_⟩:=I1.list qx;obtain ⟨ws,ry,py,_⟩:=I1.list qy;refine call_zip_2 px.isList py.isList λh' a1 a2 a3 a4 a5 a6 hk=>wpAny_pyIter_zip a1 ?_
 have I2:Inv X pins σ H1 { s1 with heap:=h' }:=I1.kept (t':=s1.toks) hk;refine ⟨_,[s1.heap.objs.size+4,s1.heap.objs.size+2,s1.heap.objs.size+3,s1.heap.objs.size,s1.heap.objs.size+1],_,_,H1,rfl,I2,KN (s1.heap.objs.size+4) (s1.heap.objs.size+2) (s1.heap.objs.size+3) s1.heap.objs.size (s1.heap.objs.size+1) l1 l2 (cU (eH _)) (cU (eH _)),⟨a1,a2,⟨_,_,a3⟩,a4,a5⟩,λb hb=>?_,q⟩
 have hb':s1.heap.objs.size<=b:=by
  simp only[aG,a8,or_false] at hb;rcases hb with rfl | rfl | rfl | rfl | rfl <;> first | exact fO _ _ | exact aj _
 exact I1.fpOk hb' (I1.hok.fresh hb')
theorem Bv (hc:X.calm=true):oP X (.builtin "all") (λxs H Q=>∃(p:Addr) (bs:List Bool),xs=[.ref p]/\bU X.K H p (bs.map V.bl)/\Q (.bl (bs.all id)) H):=by
 intro pins s σ H xs us Q I r h;obtain ⟨p,bs,rfl,hp,q⟩:=h;obtain ⟨u,rfl,ru⟩:=vals1 r;cases ru;obtain ⟨vs,rv,pl,hz⟩:=I.list hp
 have hb:PyProof.Rows.LSm.BoolsAre vs bs:=by
  clear q hp pl hz
  induction bs generalizing vs with
  | nil=>cases rv;exact .nil
  | cons b bs ih =>
   rw[gN] at rv;cases rv with
   | cons r1 r2=>cases r1;exact .cons b (ih _ r2)
 have hlt:p < s.heap.objs.size:=by obtain ⟨_,e,_⟩:=pl.isList;exact Heap.lt_size e
 refine call_all_walk (wpAny_pyIter_list pl.isList ?_)
 refine ⟨s.heap.objs.size,[s.heap.objs.size,p],[s.heap.objs.size],vs.toArray.size,_,_,λi=>(bs[i]?).getD true,rfl,Walks.list (A:=X.A.in1) (I.ok.hd hc) _ p (cU hlt) vs.toArray,
  ⟨⟨_,Heap.get?_push_size _ rfl,rfl,rfl⟩,pl.isList.push _⟩,λi v s' Q' E' hP hQ=>?_,λh' tk hk=>?_⟩
 ·obtain ⟨b,e,rfl⟩:=hb.get i v (by simpa using hP);simp only[e,Option.getD_some] at hQ;exact wpAny_truthy_bool hQ
 ·have e:((List.range vs.toArray.size).all λi=>(bs[i]?).getD true)=bs.all id:=by
   rw[aQ,hb.length];exact PyProof.Rows.LSm.range_all bs
  rw[e];exact ⟨.bl _,H,I.kept (t':=tk) (PyProof.Rows.LSm.kept_iter hk),rfl,q⟩
theorem MF (hc:X.calm=true):oP X (.builtin "sum") (λxs H Q=>∃(p:Addr) (ns:List Int),xs=[.ref p]/\bU X.K H p (ns.map V.int)/\Q (.int ns.sum) H):=by
 intro pins s σ H xs us Q I r h;obtain ⟨p,ns,rfl,hp,q⟩:=h;obtain ⟨u,rfl,ru⟩:=vals1 r;cases ru;obtain ⟨vs,rv,pl,_⟩:=I.list hp;have hi:IntsAre vs ns:=intsAre_of rv;obtain ⟨xs,hx⟩:=hi.allInts.items;have hl':s.heap.IsList p (intItems xs):=hx ▸ pl.isList;refine sum_intListG (I.ok.hd hc) hl' λh' tk t' hk=>?_
 have e1:ns=xs.toList.map (·.1):=by
  rw[<- nums_intItems,<- hx];exact (show numsOf vs.toArray.toList=ns from hi.numsOf).symm
 have e2:preSum (numAt xs) xs.size=ns.sum:=by
  rw[preSum_eq,aL (by simp),e1]
 rw[e2];exact ⟨.int _,H,I.kept (t':=tk) hk,⟨_,rfl⟩,q⟩
end
section
variable {K:FG9} {l1 l2:Addr} {xs ws:List V} {g:TG} {tf:TT} {te:TE} {Q:VK} {σ₀:St} {H:Hp}
theorem Bt (Pv:Nat->List V->Hp->Prop) (hz:xs.length<=sizeLine) (hw:ws.length=xs.length) (h0:Pv 0 [] H) (hl:∀i ys H,i<=xs.length->Pv i ys H->bU K H l1 xs/\bU K H l2 ws)
  (hs:∀i x y ys H p,xs[i]?=some x->ws[i]?=some y->ys.length<=i->Pv i ys H->H p=none->qV σ₀ g tf te (.ref p) (upd H p (.tup [x,y])) (λy H'=>Pv (i+1) (ys++[y]) H') (λH'=>Pv (i+1) ys H'))
  (hd:∀ys H,ys.length<=xs.length->Pv xs.length ys H->∀p,H p=none->Q (.ref p) (upd H p (.lst ys))):sY (QZ K l1 l2) σ₀ g tf te Q H:=by
 refine ⟨λi m ys H=>m=xs.length - i/\i<=xs.length/\ys.length<=i/\Pv i ys H,⟨xs.length,by simp,bL _,bL _,h0⟩,?_⟩;rintro i m ys H ⟨rfl,hi,hy,p⟩;obtain ⟨q1,q2⟩:=hl i ys H hi p;by_cases hlt:i < xs.length
 ·refine .inr ⟨⟨xs,ws,xs[i],ws[i]'(by lia),q1,q2,by simp [hlt],by simp⟩,by lia,λy H'=>Pv (i+1) (ys++[y]) H',λH'=>Pv (i+1) ys H',λy H' p'=>⟨xs.length - (i+1),by lia,rfl,hlt,by rw[av,bH];lia,p'⟩,λH' p'=>⟨xs.length - (i+1),by lia,rfl,hlt,by lia,p'⟩,λx H' y=>?_⟩;obtain ⟨r,x',y',rfl,hr,rfl,e1,e2⟩:=y;exact hs i x' y' ys _ r (e1 xs q1) (e2 ws q2) hy p hr
 ·have e:i=xs.length:=by lia
  subst e;exact .inl ⟨⟨xs,ws,q1,q2,.inl (aj _)⟩,by lia,hd ys H hy p⟩
theorem N7 {tb:TS} {D:Ends} (Pv:Nat->St->Hp->Prop) (hw:ws.length=xs.length) (h0:Pv 0 σ H) (hl:∀i σ H,i<=xs.length->Pv i σ H->bU K H l1 xs/\bU K H l2 ws)
  (hs:∀i x y σ H p,xs[i]?=some x->ws[i]?=some y->Pv i σ H->H p=none->g (.ref p) σ (upd H p (.tup [x,y])) λσ2 H2=>tb { D with nx:=Pv (i+1),ct:=Pv (i+1),bk:=D.nx } σ2 H2) (hd:∀σ H,Pv xs.length σ H->D.nx σ H) :
  ∃W:Nat->Nat->St->Hp->Prop,(∃m,W 0 m σ H)/\∀i m σ H,W i m σ H →
   ((QZ K l1 l2).stop i H/\D.nx σ H)\/((QZ K l1 l2).go i H/\∃N:St->Hp->Prop,(∀σ' H',N σ' H'->∃m',m' < m/\W (i+1) m' σ' H')/\∀x H',(QZ K l1 l2).yld i H x H'->g x σ H' λσ2 H2=>tb { D with nx:=N,ct:=N,bk:=D.nx } σ2 H2):=by
 refine ⟨λi m σ H=>m=xs.length - i/\i<=xs.length/\Pv i σ H,⟨xs.length,by simp,bL _,h0⟩,?_⟩;rintro i m σ H ⟨rfl,hi,p⟩;obtain ⟨q1,q2⟩:=hl i σ H hi p;by_cases hlt:i < xs.length
 ·refine .inr ⟨⟨xs,ws,xs[i],ws[i]'(by lia),q1,q2,by simp [hlt],by simp⟩,Pv (i+1),λσ' H' p'=>⟨xs.length - (i+1),by lia,rfl,hlt,p'⟩,λx H' y=>?_⟩;obtain ⟨r,x',y',rfl,hr,rfl,e1,e2⟩:=y;exact hs i x' y' σ _ r (e1 xs q1) (e2 ws q2) p hr
 ·have e:i=xs.length:=by lia
  subst e;exact .inl ⟨⟨xs,ws,q1,q2,.inl (aj _)⟩,hd σ H p⟩
end
section
variable {X:Cx}
theorem vD (K:FG9) (n:Nat) {es:List Expr} {k:Nat} {pos:Pos} {t:ML} (h:SJ X es t) (hK:X.K=K:=by rfl) (hc:X.calm=true:=by rfl)
  (hn:(assignEach es X.env).length=n:=by rfl) (hst:(assignEach es X.env).findIdx? (·.1)=none:=by rfl):PG X (.Tuple es k pos) (QL K n t):=by subst hK;exact yd hc h hn hst
theorem m5 (K:FG9) (hK:X.K=K):SQ X (Qi K):=by subst hK;exact bY
theorem gA (K:FG9) (hK:X.K=K):SQ X (Qj K):=by subst hK;exact bZ
theorem Ja (K:FG9) (hK:X.K=K) (hu:X.A.units+50 < cLine):yD X (compareOp .NotEq) (Si K):=by subst hK;exact yg hu
theorem AH (K:FG9) {tg l:Expr} {tl:TE} (hl:PE X l tl) (hK:X.K=K:=by rfl):PI X tg l (L9 K tl):=by subst hK;exact cp hl
theorem l5 (K:FG9) (hK:X.K=K):Tu X (Qg K):=by subst hK;exact DW
end
theorem d7 {X:Cx} {e e':Expr} {es:List Expr} {te:TE} {t:TA} (h:e=e') (ha:PE X e' te) (hr:PA X es t) (hs:∀l,starEach (e' :: l) X.env=(false,eval e' X.env) :: starEach l X.env:=by intro _;rfl):PA X (e :: es) (lY te t):=by subst h;exact ae ha hr (hs _)
section
variable {σ:St} {H:Hp} {D:Ends} {Q:VK}
theorem lQ (hl:H l=some (.lst xs)) (hz:xs.length < sizeLine) (h:Q .non (upd H l (.lst (xs++[y])))):IV (.ref l) [y] H Q:=⟨l,xs,y,rfl,rfl,hl,hz,h⟩
theorem Nw {K:FG9} (h:ta σ H λvs H1=>∃l1 l2,vs=[.ref l1,.ref l2]/\(∃xs,bU K H1 l1 xs)/\(∃ys,bU K H1 l2 ys)/\R (QZ K l1 l2) H1):QG K ta σ H R:=h
theorem kz (h1:H l=some (.lst xs)) (h2:H b=some (.lst zs)) (hz:xs.length+zs.length<=sizeLine) (h:∀p H',aH H H'->H p=none->H' p=some (.lst (xs++zs))->Q (.ref p) H'):Sj (.ref l) (.ref b) H Q :=
 ⟨l,b,xs,zs,rfl,rfl,h1,h2,hz,λp hp=>h p _ (aH.new hp) hp aM⟩
theorem rR {K:FG9} {lo hi:Option Int} (h1:bU K H a xs) (h:∀p H',aH H H'->H p=none->H' p=some (.lst (tx xs lo hi))->Q (.ref p) H'):Qg K (.ref a) lo hi H Q :=
 ⟨a,xs,rfl,h1,λp hp=>h p _ (aH.new hp) hp aM⟩
theorem kh {xs:List α} {i:Int} (h0:0<=i) (h1:i < xs.length):∃v,Ii xs i=some v/\v∈xs/\xs[i.toNat]?=some v:=by
 have hj:i.toNat < xs.length:=by lia
 refine ⟨xs[i.toNat],?_,aE hj,by simp [hj]⟩;have:=dG (xs:=xs) (j:=i.toNat) (v:=xs[i.toNat]) (by simp [hj]);rwa [Int.toNat_of_nonneg h0] at this
end
theorem dd {α β:Type} {F:α->β->Prop}:∀{l1:List α} {l2:List β} {y:β},Paired F l1 l2->y∈l2->∃x∈l1,F x y
 | _,_,_,.nil,h=>nomatch h
 | _,_,_,.cons r t,h=>by
  rcases aG.mp h with rfl | h
  ·exact ⟨_,dt,r⟩
  ·obtain ⟨x,hx,q⟩:=dd t h;exact ⟨x,ck _ hx,q⟩
theorem cX {F:α->β->Prop} {l1:List α} {l2:List β} {i:Nat} {y:β} (h:Paired F l1 l2) (e:l2[i]?=some y):∃x,l1[i]?=some x/\F x y:=by
 have hl:=h.length;have hi:i < l2.length:=(aF.mp e).1;refine ⟨l1[i]'(by lia),by simp,?_⟩;have:=jI h (i:=i) (by lia) hi;have e2:l2[i]=y:=(aF.mp e).2;rwa [e2] at this
def xn (n:Int×Int):Prop:=0 < n.2/\Int.gcd n.1 n.2=1/\Sz 8000 n.1/\Sz 8000 n.2
theorem take_snoc {α:Type} {l:List α} {v:α} (h:l[i]?=some v):l.take (i+1)=l.take i++[v]:=by rw[List.take_add_one,h];rfl
theorem aH.after (s:aH H H') (h:H r=Option.none):aH H (upd H' r o):=λb u e=>by rw[bN (fo e h)];exact s b u e
theorem c5.after (s:c5 b H H') (h:H r=Option.none):c5 b H (upd H' r o):=⟨λc u e n=>by rw[bN (fo e h)];exact s.1 c u e n,λq hi=>(s.2 q hi).upd λz=>by obtain ⟨_,_,_,e⟩:=hi;rw[<- z,h] at e;cases e⟩
theorem c5.same (s:c5 b H H') (e:aH H' H''):c5 b H H'':=s.trans e.upto
theorem E7 {α:Type} {Pr:α->Prop} {l:List α} {a:α} (h:∀n∈l,Pr n) (ha:Pr a):∀n∈l++[a],Pr n:=λn hn=>by
 rcases az.mp hn with hn | hn
 ·exact h n hn
 ·have e:n=a:=by simpa using hn
  rw[e];exact ha
abbrev BJ (h:Heap) (z TI TO:Addr) (f0 f1:Value):Prop:=h.get? z=some { cls:=.type "zip",dict:=none,data:=.fields #[f0,f1,.bool false,.ref TI,.ref TO],slots:=#[] }
section
variable {prog:Program} {w:World} {A:Around} {E:Value->Shared->Prop} {s:Shared}
theorem Ij (e:s.heap.get? a=some o) (h:Q (some o) s):wpAny (model prog w) A (loadIfAlive a) Q E s:=by
 intro Γ p hp;show Sem.wp _ _ (.loadIfAlive a .pure) _ _ _ _
 simp only[Sem.wp_loadIfAlive,e];exact wpAny_pure h Γ p hp
theorem AM {z TI TO T:Addr} (zr:BJ s.heap z TI TO (rawInt T) (.bool b1)) (al:s.heap.get? T=some o)
  (h:∀h',BJ h' z TI TO (rawInt T) (.bool true)->Heap.SameBut z s.heap h'->Q false { s with heap:=h' }):wpAny (model prog w) A (Builtin.SmallTypes.ownedTupleIsFree (.ref z)) Q E s:=by
 unfold Builtin.SmallTypes.ownedTupleIsFree;refine wpAny_bind (wpAny_field zr rfl (x:=rawInt T) rfl ?_);refine wpAny_bind (Ij (a:=T) al ?_);refine wpAny_bind (wpAny_field zr rfl (x:=.bool b1) rfl ?_);cases b1 with
 | true=>exact wpAny_pure (h _ zr (.refl ..))
 | false=>exact wpAny_bind (wpAny_setField_rec zr (by simp) λh' zr' sb=>wpAny_pure (h h' zr' sb))
theorem Ki {z TI TO T i1 i2 l1 l2:Addr} {Q:Value->Shared->Prop} (D:ZipApart z TI TO i1 i2 l1 l2) (zr:BJ s.heap z TI TO (rawInt T) (.bool b1)) (al:s.heap.get? T=some o)
  (pt:IsPair s.heap TI (.ref i1) (.ref i2)) (j1:s.heap.IsListIter i1 l1 k1) (j2:s.heap.IsListIter i2 l2 k2) (m1:s.heap.IsList l1 us) (m2:s.heap.IsList l2 ws) (eu:us[k1]?=some u) (ev:ws[k2]?=some v)
  (hQ:∀h',BJ h' z TI TO (rawInt T) (.bool true)->h'.IsListIter i1 l1 (k1+1)->h'.IsListIter i2 l2 (k2+1)->IsPair h' s.heap.objs.size u v->(∀c o,c≠z->c≠i1->c≠i2->s.heap.get? c=some o->h'.get? c=some o)->Q (.ref s.heap.objs.size) { s with heap:=h' }) :
  wpAny (model prog w) A (Builtin.«zip.__next__» ⟨[.ref z],[]⟩) (λfin s'=>∃v,fin=.done (.ret v)/\Q v s') E s:=by
 change wpAny _ _ (field (Value.ref z) 2 >>= _) _ _ s
 refine wpAny_bind (wpAny_field zr rfl (x:=.bool false) rfl ?_)
 change wpAny _ _ (field (Value.ref z) 3 >>= _) _ _ s
 refine wpAny_bind (wpAny_field zr rfl (x:=.ref TI) rfl (wpAny_bind (wpAny_seqItems pt rfl ?_)))
 change wpAny _ _ (Builtin.SmallTypes.ownedTupleIsFree (Value.ref z) >>= _) _ _ s
 refine wpAny_bind (AM zr al λg1 zr1 sb1=>?_);simp only[iG,if_false];refine wpAny_bind ?_;rw[<- Array.forIn_toList];simp only[MR,DG];have j1':=j1.extBut sb1.extBut D.i1z;have m1':=m1.extBut sb1.extBut D.l1z;refine wpAny_bind (wpAny_bind (wpAny_holding ?_))
 change wpAny _ _ (Builtin.SmallTypes.nextOf (Value.ref i1) >>= _) _ _ _
 refine wpAny_bind (wpAny_nextOf_list_item j1' m1' eu λg2 j1a sb2=>wpAny_pure ?_);refine wpAny_pure ?_;have j2':=(j2.extBut sb1.extBut D.i2z).extBut sb2.extBut D.i12.symm;have m2':=(m2.extBut sb1.extBut D.l2z).extBut sb2.extBut D.l2i1;refine wpAny_bind (wpAny_bind (wpAny_holding ?_))
 change wpAny _ _ (Builtin.SmallTypes.nextOf (Value.ref i2) >>= _) _ _ _
 refine wpAny_bind (wpAny_nextOf_list_item j2' m2' ev λg3 j2a sb3=>wpAny_pure ?_);refine wpAny_pure (wpAny_pure ?_);refine wpAny_bind (wpAny_newTuple (hsz:=iX rfl) ?_);have sz:g3.objs.size=s.heap.objs.size:=by rw[sb3.1,sb2.1,sb1.1]
 have up:∀c o,c≠z->c≠i1->c≠i2->s.heap.get? c=some o->g3.get? c=some o:=λc o c1 c2 c3 e=>sb3.extBut _ _ c3 (sb2.extBut _ _ c2 (sb1.extBut _ _ c1 e))
 have zr3:BJ g3 z TI TO (rawInt T) (.bool true):=sb3.extBut _ _ D.i2z.symm (sb2.extBut _ _ D.i1z.symm zr1);refine wpAny_pure ⟨_,rfl,?_⟩
 change Q (.ref g3.objs.size) { s with heap:=g3.push { cls:=.type "tuple",data:=.seq #[u,v] } }
 have last:=hQ (g3.push { cls:=.type "tuple",data:=.seq #[u,v] }) (Heap.get?_push_of_some _ zr3) ((j1a.extBut sb3.extBut D.i12).at λo e=>Heap.get?_push_of_some _ e) (j2a.at λo e=>Heap.get?_push_of_some _ e)
  (by rw[<- sz];exact Heap.get?_push_size _ rfl) λc o c1 c2 c3 e=>Heap.get?_push_of_some _ (up c o c1 c2 c3 e)
 rw[sz];exact last
theorem LO {z TI TO T i1 i2 l1 l2:Addr} (hh:A.handled=none) (D:ZipApart z TI TO i1 i2 l1 l2) (zr:BJ s.heap z TI TO (rawInt T) (.bool b1)) (al:s.heap.get? T=some o)
  (pt:IsPair s.heap TI (.ref i1) (.ref i2)) (j1:s.heap.IsListIter i1 l1 k1) (m1:s.heap.IsList l1 us) (eu:us[k1]?=none)
  (hE:∀h' e,(∀c o,c≠z->c≠i1->c≠i2->s.heap.get? c=some o->h'.get? c=some o)->(∃o,h'.get? e=some o/\o.cls=.type "StopIteration")->E (.ref e) { s with heap:=h' }) :
  wpAny (model prog w) A (Builtin.«zip.__next__» ⟨[.ref z],[]⟩) Q E s:=by
 change wpAny _ _ (field (Value.ref z) 2 >>= _) _ _ s
 refine wpAny_bind (wpAny_field zr rfl (x:=.bool false) rfl ?_)
 change wpAny _ _ (field (Value.ref z) 3 >>= _) _ _ s
 refine wpAny_bind (wpAny_field zr rfl (x:=.ref TI) rfl (wpAny_bind (wpAny_seqItems pt rfl ?_)))
 change wpAny _ _ (Builtin.SmallTypes.ownedTupleIsFree (Value.ref z) >>= _) _ _ s
 refine wpAny_bind (AM zr al λg1 zr1 sb1=>?_);simp only[iG,if_false];refine wpAny_bind ?_;rw[<- Array.forIn_toList];simp only[MR,DG];refine wpAny_bind (wpAny_bind (wpAny_holding ?_))
 change wpAny _ _ (Builtin.SmallTypes.nextOf (Value.ref i1) >>= _) _ _ _
 exact wpAny_bind (wpAny_nextOf_list_end hh (j1.extBut sb1.extBut D.i1z) (m1.extBut sb1.extBut D.l1z) eu λg2 e xb he=>hE g2 e (λc o c1 c2 _ q=>xb _ _ c2 (sb1.extBut _ _ c1 q)) he)
theorem Kg {z TI TO T i1 i2 l1 l2:Addr} (D:ZipApart z TI TO i1 i2 l1 l2) (zr:BJ s.heap z TI TO (rawInt T) (.bool b1)) (al:s.heap.get? T=some o)
  (pt:IsPair s.heap TI (.ref i1) (.ref i2)) (j1:s.heap.IsListIter i1 l1 k1) (j2:s.heap.IsListIter i2 l2 k2) (m1:s.heap.IsList l1 us) (m2:s.heap.IsList l2 ws) (eu:us[k1]?=some u) (ev:ws[k2]?=some v)
  (hQ:∀h',BJ h' z TI TO (rawInt T) (.bool true)->h'.IsListIter i1 l1 (k1+1)->h'.IsListIter i2 l2 (k2+1)->IsPair h' s.heap.objs.size u v->(∀c o,c≠z->c≠i1->c≠i2->s.heap.get? c=some o->h'.get? c=some o)->Q (some (.ref s.heap.objs.size)) { s with heap:=h' }) :
  wpAny (model prog w) A (pyNext (.ref z)) Q E s:=by
 have ty:s.TypeIs (.ref z) "zip":=⟨_,zr,rfl⟩;unfold pyNext;refine wpAny_bind (wpAny_attempt (wpAny_callSpecial?_slot (name:=Str.ofString "__next__") ty oR (wpAny_call_entry oR ty PySem.F.entry_zip_next ?_ (SV _))));exact Ki D zr al pt j1 j2 m1 m2 eu ev λh' a1 a2 a3 a4 a5=>wpAny_pure (hQ h' a1 a2 a3 a4 a5)
theorem Kf {z TI TO T i1 i2 l1 l2:Addr} (hh:A.handled=none) (D:ZipApart z TI TO i1 i2 l1 l2) (zr:BJ s.heap z TI TO (rawInt T) (.bool b1)) (al:s.heap.get? T=some o)
  (pt:IsPair s.heap TI (.ref i1) (.ref i2)) (j1:s.heap.IsListIter i1 l1 k1) (m1:s.heap.IsList l1 us) (eu:us[k1]?=none)
  (hQ:∀h',(∀c o,c≠z->c≠i1->c≠i2->s.heap.get? c=some o->h'.get? c=some o)->Q none { s with heap:=h' }):wpAny (model prog w) A (pyNext (.ref z)) Q E s:=by
 have ty:s.TypeIs (.ref z) "zip":=⟨_,zr,rfl⟩;unfold pyNext;refine wpAny_bind (wpAny_attempt (wpAny_callSpecial?_slot (name:=Str.ofString "__next__") ty oR (wpAny_call_entry oR ty PySem.F.entry_zip_next ?_ (SV _))));refine LO hh D zr al pt j1 m1 eu λh' e kk ⟨oe,he,hc⟩=>?_
 exact wpAny_bind (wpAny_isInstance (T:="StopIteration") (b:=true) ⟨oe,he,hc⟩ isSubtype_stop (wpAny_pure (hQ _ kk)))
end
section
variable {X:Cx} {pins:List (Addr×Obj)} {σ:St} {H:Hp} {s:Shared}
theorem Inv.moved {ch:List Addr} (I:Inv X pins σ H s) (fx:∀b∈ch,jQ X pins H b) (up:∀b o,b∉ch->s.heap.get? b=some o->h'.get? b=some o) (hg:AllBare g') :
  Inv X pins σ H { s with heap:=h',gens:=g',drawn:=d',toks:=t' }:=by
 have nx:∀b o,H b=some o->b∉ch:=λb o e hb=>by have:=(fx b hb).1;rw[this] at e;cases e
 refine I.step (ch:=ch) (λb hb=>?_) (λb o _ _ hb e _=>up b o hb e) (λb o _ _ hb e _=>⟨o.slots,up b o hb e⟩) (λb o hb e n=>n) (λb o hb e=>⟨o,up b o hb e⟩) (λb q e=>e) (λb o q e=>e) (λb q e=>⟨#[],by rw[e];simp⟩) (λm hm=>?_) (λb o e=>?_) hg
 ·obtain ⟨_,f1,_,f3,f4,f5⟩:=fx b hb;exact ⟨f3,f1,f4,f5⟩
 ·obtain ⟨o,es,ep,ho,r⟩:=hm;exact ⟨o,es,ep,up _ o (λz=>(fx _ z).2.1 rfl) ho,r⟩
 ·refine (I.hok b o e).stay (λc v' hc q=>up c v' ?_ q) (λc q=>q) λc xs q=>q
  rcases hc with rfl | hc
  ·exact nx _ _ e
  ·exact nx _ _ hc
theorem Inv.track (I:Inv X pins σ H s) (fp:jQ X pins H p) (new:iV X.prog X.w (upd H p o) s.heap p o):Inv X pins σ (upd H p o) s:=by
 have nt:∀{b:Addr} {u:HO},H b=some u->b≠p:=λe z=>by rw[z,fp.1] at e;cases e
 refine I.step (h':=s.heap) (g':=s.gens) (d':=s.drawn) (t':=s.toks) (ch:=[p]) (λb hb=>?_) (λb o _ _ _ e _=>e) (λb o _ _ _ e _=>⟨o.slots,e⟩) (λb o hb e n=>?_) (λb o _ e=>⟨o,e⟩) (λb q e=>by rw[bN (nt e)];exact e) (λb o q e=>by rw[bN (nt e)];exact e)
  (λb q e=>⟨#[],by rw[bN (nt e),e];simp⟩) (λm hm=>hm) (λb u e=>?_) I.bare
 ·have e:b=p:=by simpa using hb
  subst e;obtain ⟨_,f1,_,f3,f4,f5⟩:=fp;exact ⟨f3,f1,f4,f5⟩
 ·rw[bN λz=>hb (by simp [z])];exact n
 ·by_cases hb:b=p
  ·subst hb;rw[aM] at e;cases e;exact new
  ·rw[bN hb] at e;exact (I.hok b u e).stay (λc v _ q=>q) (λc q=>by rw[bN (nt q)];exact q) λc xs q=>by rw[bN (nt q)];exact q
end
def O7 (H:Hp) (p:V×V) (x:V):Prop:=∃T,x=.ref T/\H T=some (.tup [p.1,p.2])
theorem O7.same (h:O7 H p x) (e:aH H H'):O7 H' p x:=by obtain ⟨T,q,g⟩:=h;exact ⟨T,q,e _ _ g⟩
def Zst (h:Heap) (z TI TO:Addr) (base:Nat):Prop:=(∃a b,IsPair h TO a b)/\(IsZip h z TI TO .none\/∃(T:Addr) (b1:Bool) (o:Obj),BJ h z TI TO (rawInt T) (.bool b1)/\h.get? T=some o/\@LE.le Nat instLENat base T)
theorem DH {z TI TO i1 i2 l1 l2:Addr} (hz:BJ h z TI TO f0 f1) (hTI:IsPair h TI (.ref i1) (.ref i2)) (hTO:IsPair h TO a b) (h1:h.IsListIter i1 l1 k1) (h2:h.IsListIter i2 l2 k2) (hl1:h.IsList l1 xs) (hl2:h.IsList l2 ys) (hT:TI≠TO) (hi:i1≠i2):ZipApart z TI TO i1 i2 l1 l2:=by
 obtain ⟨o1,g1,c1,_⟩:=h1;obtain ⟨o2,g2,c2,_⟩:=h2;obtain ⟨p1,q1,d1,_⟩:=hl1;obtain ⟨p2,q2,d2,_⟩:=hl2;have zt:Value.type "zip"≠.type "tuple":=lX (by decide);have it:Value.type "list_iterator"≠.type "tuple":=lX (by decide);have iz:Value.type "list_iterator"≠.type "zip":=lX (by decide);have lz:Value.type "list"≠.type "zip":=lX (by decide);have lt:Value.type "list"≠.type "tuple":=lX (by decide);have li:Value.type "list"≠.type "list_iterator":=lX (by decide)
 exact ⟨dj hTI hz zt.symm,dj hTO hz zt.symm,dj g1 hz (by rw[c1];exact iz),dj g2 hz (by rw[c2];exact iz),hT,dj hTI g1 (by rw[c1];exact it.symm),dj hTI g2 (by rw[c2];exact it.symm),dj hTO g1 (by rw[c1];exact it.symm),dj hTO g2 (by rw[c2];exact it.symm),hi,
  dj q1 hz (by rw[d1];exact lz),dj q1 hTO (by rw[d1];exact lt),dj q1 g1 (by rw[d1,c1];exact li),dj q1 g2 (by rw[d1,c2];exact li),dj q2 hz (by rw[d2];exact lz),dj q2 hTO (by rw[d2];exact lt),dj q2 g1 (by rw[d2,c1];exact li),dj q2 g2 (by rw[d2,c2];exact li)⟩
section
variable {X:Cx} {pins:List (Addr×Obj)} {σ:St}
theorem jQ.heap (f:jQ X pins H b) (e:H' b=none):jQ X pins H' b:=⟨e,f.2⟩
structure Fb where
 z:Addr
 TI:Addr
 TO:Addr
 i1:Addr
 i2:Addr
 S:Addr
 base:Nat
def Fb.all (a:Fb):List Addr:=[a.z,a.TI,a.TO,a.i1,a.i2,a.S]
structure Fb.Ok (a:Fb):Prop where
 tt:a.TI≠a.TO
 ii:a.i1≠a.i2
 Sz:a.S≠a.z
 STI:a.S≠a.TI
 STO:a.S≠a.TO
 Si1:a.S≠a.i1
 Si2:a.S≠a.i2
 lt:∀b∈a.all,@LT.lt Nat instLTNat b a.base
structure Ou (X:Cx) (pins:List (Addr×Obj)) (σ:St) (H1:Hp) (a:Fb) (l1 l2:Addr) (i:Nat) (H:Hp) (s:Shared):Prop where
 inv:Inv X pins σ H s
 same:aH H1 H
 fps:∀b∈a.all,jQ X pins H b
 sz:a.base<=s.heap.objs.size
 zst:Zst s.heap a.z a.TI a.TO a.base
 pt:IsPair s.heap a.TI (.ref a.i1) (.ref a.i2)
 j1:s.heap.IsListIter a.i1 l1 i
 j2:s.heap.IsListIter a.i2 l2 i
variable {a:Fb} {l1 l2:Addr} {H1 H:Hp} {s:Shared} {i:Nat} {xs ys:List V}
theorem Ou.push (L:Ou X pins σ H1 a l1 l2 i H s) (O:a.Ok) (k:∀b o,b≠a.S->s.heap.get? b=some o->h'.get? b=some o) (hz:h'.objs.size=s.heap.objs.size):Ou X pins σ H1 a l1 l2 i H { s with heap:=h' }:=by
 refine ⟨L.inv.moved (g':=s.gens) (d':=s.drawn) (t':=s.toks) (ch:=[a.S]) (λb hb=>?_) (λb o hb e=>k b o (λz=>hb (by simp [z])) e) L.inv.bare,L.same,L.fps,by show a.base<=h'.objs.size;rw[hz];exact L.sz,?_,k _ _ O.STI.symm L.pt,L.j1.at λo e=>k _ o O.Si1.symm e,L.j2.at λo e=>k _ o O.Si2.symm e⟩
 ·have e:b=a.S:=by simpa using hb
  rw[e];exact L.fps _ (by simp [Fb.all])
 ·obtain ⟨⟨c,d,z0⟩,z4⟩:=L.zst;refine ⟨⟨c,d,k _ _ O.STO.symm z0⟩,?_⟩;rcases z4 with z1 | ⟨T,b1,o,z1,z2,z3⟩
  ·exact .inl (k _ _ O.Sz.symm z1)
  ·refine .inr ⟨T,b1,o,k _ _ O.Sz.symm z1,k _ _ (λe=>?_) z2,z3⟩;have:=O.lt a.S (by simp [Fb.all]);rw[<- e] at this;exact absurd this (Nat.not_lt.mpr z3)
theorem KH (O:a.Ok) (q1:bU X.K H1 l1 xs) (q2:bU X.K H1 l2 ys) (ex:xs[i]?=some x) (ey:ys[i]?=some y) (L:Ou X pins σ H1 a l1 l2 i H s)
  (hQ:∀s',Ou X pins σ H1 a l1 l2 (i+1) (upd H s.heap.objs.size (.tup [x,y])) s'->(∀c o,c∉[a.z,a.TO,a.i1,a.i2]->s.heap.get? c=some o->s'.heap.get? c=some o)->H s.heap.objs.size=none->Q (some (.ref s.heap.objs.size)) s'):wpAny (model X.prog X.w) A' (pyNext (.ref a.z)) Q E s:=by
 obtain ⟨I,sm,fps,sz,zst,pt,j1,j2⟩:=id L;obtain ⟨us,ru,pu,_⟩:=I.list (sm.seq q1);obtain ⟨ws,rw',pw,_⟩:=I.list (sm.seq q2);obtain ⟨u,eu,r1⟩:=ru.get ex;obtain ⟨v,ev,r2⟩:=rw'.get ey;have fx:∀b∈[a.z,a.TO,a.i1,a.i2],jQ X pins H b:=λb hb=>fps b (by simp only[Fb.all,aG,a8,or_false] at hb ⊢;rcases hb with e | e | e | e <;> simp [e])
 have hT0:H s.heap.objs.size=none:=I.hok.fresh (aj _);have fT:jQ X pins H s.heap.objs.size:=I.fpOk (aj _) hT0;have lt:∀b∈a.all,b≠s.heap.objs.size:=λb hb e=>by have:=O.lt b hb;rw[e] at this;exact absurd this (Nat.not_lt.mpr sz)
 have fin:∀h',(∀c o,c∉[a.z,a.TO,a.i1,a.i2]->s.heap.get? c=some o->h'.get? c=some o)->IsPair h' s.heap.objs.size u v->IsPair h' a.TI (.ref a.i1) (.ref a.i2)->h'.IsListIter a.i1 l1 (i+1)->h'.IsListIter a.i2 l2 (i+1)->Zst h' a.z a.TI a.TO a.base →
   Q (some (.ref s.heap.objs.size)) { s with heap:=h' }:=λh' up pr pt' j1' j2' zst'=>by
  have I2:Inv X pins σ H { s with heap:=h' }:=I.moved (g':=s.gens) (d':=s.drawn) (t':=s.toks) fx up I.bare;have I3:Inv X pins σ (upd H s.heap.objs.size (.tup [x,y])) { s with heap:=h' }:=I2.track fT ⟨iX rfl,[u,v],.cons r1 (.cons r2 .nil),⟨_,pr,rfl,_,rfl⟩⟩;refine hQ _ ⟨I3,sm.trans (aH.new hT0),λb hb=>(fps b hb).heap (by rw[bN (lt b hb)];exact (fps b hb).1),?_,zst',pt',j1',j2'⟩ up hT0;exact ai sz (aT (Heap.lt_size pr))
 obtain ⟨⟨c,d,z0⟩,z4⟩:=zst;rcases z4 with z1 | ⟨T,b1,o,z1,z2,z3⟩
 ·have D:=DH z1 pt z0 j1 j2 pu.isList pw.isList O.tt O.ii;refine wpAny_pyNext_zip_item D z1 pt z0 j1 j2 pu.isList pw.isList (x:=u) (y:=v) (by simpa using eu) (by simpa using ev) λh' a1 a2 a3 a4 a5 a6 hk=>?_
  have up:∀c o,c∉[a.z,a.TO,a.i1,a.i2]->s.heap.get? c=some o->h'.get? c=some o:=λc o hc e=>by
   simp only[aG,a8,or_false,not_or] at hc;exact hk c o hc.1 hc.2.1 hc.2.2.1 hc.2.2.2 e
  exact fin h' up a5 (hk _ _ D.TIz D.TITO D.TIi1 D.TIi2 pt) a3 a4 ⟨⟨_,_,a2⟩,.inr ⟨s.heap.objs.size,false,_,a1,a5,sz⟩⟩
 ·have D:=DH z1 pt z0 j1 j2 pu.isList pw.isList O.tt O.ii;refine Kg D z1 z2 pt j1 j2 pu.isList pw.isList (u:=u) (v:=v) (by simpa using eu) (by simpa using ev) λh' a1 a3 a4 a5 hk=>?_
  have up:∀c o,c∉[a.z,a.TO,a.i1,a.i2]->s.heap.get? c=some o->h'.get? c=some o:=λc o hc e=>by
   simp only[aG,a8,or_false,not_or] at hc;exact hk c o hc.1 hc.2.2.1 hc.2.2.2 e
  have Tn:∀b∈a.all,T≠b:=λb hb e=>by have:=O.lt b hb;rw[<- e] at this;exact absurd this (Nat.not_lt.mpr z3)
  exact fin h' up a5 (hk _ _ D.TIz D.TIi1 D.TIi2 pt) a3 a4 ⟨⟨_,_,hk _ _ D.TOz D.TOi1 D.TOi2 z0⟩,.inr ⟨T,true,o,a1,hk _ _ (Tn _ (by simp [Fb.all])) (Tn _ (by simp [Fb.all])) (Tn _ (by simp [Fb.all])) z2,z3⟩⟩
theorem KG (hh:A'.handled=none) (O:a.Ok) (q1:bU X.K H1 l1 xs) (q2:bU X.K H1 l2 ys) (hi:xs.length<=i) (L:Ou X pins σ H1 a l1 l2 i H s)
  (hQ:∀s',Inv X pins σ H s'->(∀c o,c∉[a.z,a.TO,a.i1,a.i2]->s.heap.get? c=some o->s'.heap.get? c=some o)->Q none s'):wpAny (model X.prog X.w) A' (pyNext (.ref a.z)) Q E s:=by
 obtain ⟨I,sm,fps,sz,zst,pt,j1,j2⟩:=id L;obtain ⟨us,ru,pu,_⟩:=I.list (sm.seq q1);obtain ⟨ws,rw',pw,_⟩:=I.list (sm.seq q2);have lx:=ru.length;have none1:us.toArray[i]?=none:=by simp;lia
 have fx:∀b∈[a.z,a.TO,a.i1,a.i2],jQ X pins H b:=λb hb=>fps b (by simp only[Fb.all,aG,a8,or_false] at hb ⊢;rcases hb with e | e | e | e <;> simp [e])
 have fin:∀h',(∀c o,c∉[a.z,a.TO,a.i1,a.i2]->s.heap.get? c=some o->h'.get? c=some o)->Q none { s with heap:=h' }:=λh' up=>hQ _ (I.moved (g':=s.gens) (d':=s.drawn) (t':=s.toks) fx up I.bare) up
 obtain ⟨⟨c,d,z0⟩,z4⟩:=zst;rcases z4 with z1 | ⟨T,b1,o,z1,z2,z3⟩
 ·have D:=DH z1 pt z0 j1 j2 pu.isList pw.isList O.tt O.ii;refine wpAny_pyNext_zip_end hh D z1 pt z0 j1 j2 pu.isList pw.isList (.inl none1) λh' hk=>fin h' λc o hc e=>?_
  simp only[aG,a8,or_false,not_or] at hc;exact hk c o hc.1 hc.2.1 hc.2.2.1 hc.2.2.2 e
 ·have D:=DH z1 pt z0 j1 j2 pu.isList pw.isList O.tt O.ii;refine Kf hh D z1 z2 pt j1 pu.isList none1 λh' hk=>fin h' λc o hc e=>?_
  simp only[aG,a8,or_false,not_or] at hc;exact hk c o hc.1 hc.2.2.1 hc.2.2.2 e
theorem KJ (hh:A'.handled=none) (O:a.Ok) (hz:xs.length<=sizeLine) (hl:ys.length=xs.length) (q1:bU X.K H1 l1 xs) (q2:bU X.K H1 l2 ys)
  (fin:∀s' H' ts acc c,Inv X pins σ H' s'->aH H1 H'->jQ X pins H' a.S->s'.heap.get? a.S=some (lobj acc c)->cQ ts acc->Paired (O7 H') (xs.zip ys) ts->R (.ok (.ret .none)) s') :
  ∀(k i:Nat) (s:Shared) (H:Hp) (ts:List V) (acc:List Value) (c:Nat),xs.length - i=k->i<=xs.length->Ou X pins σ H1 a l1 l2 i H s->s.heap.get? a.S=some (lobj acc c)->cQ ts acc->Paired (O7 H) ((xs.zip ys).take i) ts →
   codeAny (model X.prog X.w) A' (.builtin "list.extend.loop" ⟨[.ref a.S,.ref a.z,.none],[]⟩) R s:=by
 have Sn:a.S∉[a.z,a.TO,a.i1,a.i2]:=λh=>by
  simp only[aG,a8,or_false] at h;rcases h with e | e | e | e
  ·exact O.Sz e
  ·exact O.STO e
  ·exact O.Si1 e
  ·exact O.Si2 e
 intro k
 induction k with
 | zero =>
  intro i s H ts acc c hk hi L gS rv prs;have e:i=xs.length:=by lia
  refine codeAny_builtin Q4 ?_;rw[Around.under_plainId ki _]
  change wpAny _ A'.in1 (pyNext (Value.ref a.z) >>= _) _ _ s
  refine wpAny_bind (KG hh O q1 q2 (by lia) L λs' I' up=>wpAny_pure (fin s' H ts acc c I' L.same (L.fps _ (by simp [Fb.all])) (up _ _ Sn gS) rv ?_));rwa [aL (by rw[BP];lia)] at prs
 | succ k ih =>
  intro i s H ts acc c hk hi L gS rv prs;have hlt:i < xs.length:=by lia
  have lt:=prs.length;have la:=rv.length;refine codeAny_builtin Q4 ?_;rw[Around.under_plainId ki _]
  change wpAny _ A'.in1 (pyNext (Value.ref a.z) >>= _) _ _ s
  refine wpAny_bind (KH O q1 q2 (x:=xs[i]) (y:=ys[i]'(by lia)) (by simp [hlt]) (by simp) L λs' L' up hT=>?_);have gS':=up _ _ Sn gS
  change wpAny _ A'.in1 (updateSeq a.S (·.push (Value.ref s.heap.objs.size)) >>= _) _ _ s'
  have small:acc.length<=sizeLine:=by
   rw[aR,BP] at lt
   lia
  refine wpAny_bind (wpAny_updateSeq gS' rfl (wpAny_pure ⟨plainId_quiet ki _,?_⟩) (by rw[aQ];exact small) (by
   show (acc.toArray.push (Value.ref s.heap.objs.size)).size<=sizeLine+1
   rw[Array.size_push,aQ]
   lia))
  have gS2:=j9 gS' (λb=>b.push (Value.ref s.heap.objs.size));have e2:(acc.toArray.push (Value.ref s.heap.objs.size))=(acc++[Value.ref s.heap.objs.size]).toArray:=by simp
  rw[e2] at gS2;refine ih (i+1) _ (upd H s.heap.objs.size (.tup [xs[i],ys[i]'(by lia)])) (ts++[.ref s.heap.objs.size]) (acc++[.ref s.heap.objs.size]) _ (by lia) hlt (L'.push O (λb o hb e=>(Heap.get?_update_other _ _ (Ne.symm hb)).trans e) (Heap.size_update ..)) gS2 (rv.append (show cQ [V.ref s.heap.objs.size] [Value.ref s.heap.objs.size] from .cons rfl .nil)) ?_;have zp:(xs.zip ys)[i]?=some (xs[i],ys[i]'(by lia)):=by simp [Q6,hlt]
  rw[take_snoc zp];exact (Paired.imp' (λ_ _ z=>z.same (aH.new hT)) prs).snoc ⟨_,rfl,aM⟩
theorem GZ:typeLookup (.type "zip") "__len__"=pure Option.none:=by rw[typeLookup_type,builtinLookup_eq_fast];kernel_rfl
theorem Fj:typeLookup (.type "zip") "__length_hint__"=pure Option.none:=by rw[typeLookup_type,builtinLookup_eq_fast];kernel_rfl
theorem KI (hh:A'.handled=none) (O:a.Ok) (hz:xs.length<=sizeLine) (hl:ys.length=xs.length) (q1:bU X.K H1 l1 xs) (q2:bU X.K H1 l2 ys) (L:Ou X pins σ H1 a l1 l2 0 H s) (gS:s.heap.get? a.S=some (lobj [] 0)) (z0:IsZip s.heap a.z a.TI a.TO .none)
  (fin:∀s' H' ts acc c,Inv X pins σ H' s'->aH H1 H'->jQ X pins H' a.S->s'.heap.get? a.S=some (lobj acc c)->cQ ts acc->Paired (O7 H') (xs.zip ys) ts->R (.ok (.ret .none)) s') :
  wpAny (model X.prog X.w) A'.in1 (Builtin.«list.__init__» ⟨[.ref a.S,.ref a.z],[]⟩) (λfl s'=>match fl with | .done f=>R (.ok f) s' | .again c'=>c'.quiet=true/\codeAny (model X.prog X.w) A' c' R s') (λe s'=>R (.error e) s') s:=by
 change wpAny _ A'.in1 (do let old <- Builtin.List.listItems (Value.ref a.S);Builtin.List.listUpdate (Value.ref a.S) (λ_=>#[]);letGo old.toList.reverse;Builtin.List.listExtendWith (Value.ref a.S) (Value.ref a.z) Value.none) _ _ s
 refine wpAny_bind ?_;unfold Builtin.List.listItems;refine wpAny_bind (wpAny_seqItems gS rfl (wpAny_pure ?_))
 change wpAny _ A'.in1 (updateSeq a.S (λ_=>#[]) >>= λ_=>letGo (#[]:Array Value).toList.reverse >>= λ_=>Builtin.List.listExtendWith (Value.ref a.S) (Value.ref a.z) Value.none) _ _ s
 refine wpAny_bind (wpAny_updateSeq gS rfl ?_);have g1:=j9 gS (λ_=>(#[]:Array Value));obtain ⟨n1,g1⟩:∃n1,(s.heap.update a.S (Obj.mapSeq λ_=>(#[]:Array Value))).get? a.S=some (lobj [] n1):=⟨_,g1⟩;have L1:=L.push (h':=s.heap.update a.S (Obj.mapSeq λ_=>(#[]:Array Value))) O (λb o hb e=>(Heap.get?_update_other _ _ (Ne.symm hb)).trans e) (Heap.size_update ..);have z1:IsZip (s.heap.update a.S (Obj.mapSeq λ_=>(#[]:Array Value))) a.z a.TI a.TO .none:=(Heap.get?_update_other _ _ O.Sz).trans z0;refine wpAny_bind (wpAny_letGo ?_);unfold Builtin.List.listExtendWith;have ty:Shared.TypeIs { s with heap:=s.heap.update a.S (Obj.mapSeq λ_=>(#[]:Array Value)) } (.ref a.z) "zip":=⟨_,z1,rfl⟩;refine wpAny_bind (wpAny_typeOf ty ?_);have h1:Builtin.List.listSameRef (.ref a.S) (.ref a.z)=false:=by simp [Builtin.List.listSameRef,O.Sz]
 have h2:(Value.type "zip" == Value.type "list")=false:=by decide
 have h3:(Value.type "zip" == Value.type "tuple")=false:=by decide
 simp only[h1,h2,h3,Bool.or_false,iG,if_false];refine wpAny_bind (wpAny_pyIter_zip z1 (wpAny_bind (wpAny_holding ?_)));unfold Builtin.List.listLengthHint;refine wpAny_bind (wpAny_specialOf ty GZ ?_)
 change wpAny _ A'.in1 (specialOf (Value.ref a.z) (Str.ofString "__length_hint__") >>= _) _ _ _
 refine wpAny_bind (wpAny_specialOf ty Fj (wpAny_pure ?_))
 change wpAny _ A'.in1 (rule "list.extend.makes-room" >>= λ_=>Builtin.List.listTouch (Value.ref a.S) >>= λ_=>again (.builtin "list.extend.loop" ⟨[Value.ref a.S,Value.ref a.z,Value.none],[]⟩)) _ _ _
 refine wpAny_bind (wpAny_rule (wpAny_bind ?_))
 change wpAny _ A'.in1 (updateSeq a.S (·.push Value.none) >>= λ_=>updateSeq a.S (·.pop)) _ _ _
 refine wpAny_bind (wpAny_updateSeq g1 rfl ?_);have g2:=j9 g1 (λb=>b.push Value.none);obtain ⟨n2,g2⟩:∃n2,((s.heap.update a.S (Obj.mapSeq λ_=>(#[]:Array Value))).update a.S (Obj.mapSeq λb=>b.push Value.none)).get? a.S=some (lobj [Value.none] n2):=⟨_,g2⟩;have L2:=L1.push (h':=(s.heap.update a.S (Obj.mapSeq λ_=>(#[]:Array Value))).update a.S (Obj.mapSeq λb=>b.push Value.none)) O (λb o hb e=>(Heap.get?_update_other _ _ (Ne.symm hb)).trans e) (Heap.size_update ..);refine wpAny_updateSeq g2 rfl ?_ (iX rfl);have g3:=j9 g2 (λb=>b.pop);have L3:=L2.push (h':=((s.heap.update a.S (Obj.mapSeq λ_=>(#[]:Array Value))).update a.S (Obj.mapSeq λb=>b.push Value.none)).update a.S (Obj.mapSeq λb=>b.pop)) O (λb o hb e=>(Heap.get?_update_other _ _ (Ne.symm hb)).trans e) (Heap.size_update ..);exact wpAny_pure ⟨plainId_quiet ki _,KJ hh O hz hl q1 q2 fin _ 0 _ H [] [] _ rfl (bL _) L3 g3 .nil .nil⟩
end
section
variable {X:Cx}
theorem Pc (n:Nat):Fb.Ok ⟨n+4,n+2,n+3,n,n+1,n+5,n+5+1⟩:=by
 have ne:∀p q:Nat,p≠q->@Ne Addr p q:=λ_ _ h=>h
 refine ⟨ne (n+2) (n+3) (by lia),ne n (n+1) (by lia),ne (n+5) (n+4) (by lia),ne (n+5) (n+2) (by lia),ne (n+5) (n+3) (by lia),ne (n+5) n (by lia),ne (n+5) (n+1) (by lia),λb hb=>?_⟩;have hb':b∈[n+4,n+2,n+3,n,n+1,n+5]:=hb;show @LT.lt Nat instLTNat b (n+5+1)
 simp only[aG,a8,or_false] at hb';rcases hb' with e | e | e | e | e | e <;> (rw[e];exact bJ (eH _) (by lia))
def Fo (K:FG9) (ta:TA):TE:=λσ H Q=>ta σ H λvs H1=>∃(l1 l2:Addr) (xs ys:List V),vs=[.ref l1,.ref l2]/\bU K H1 l1 xs/\bU K H1 l2 ys/\ys.length=xs.length /\
 ∀L ts H',aH H1 H'->H1 L=none->H' L=some (.lst ts)->Paired (O7 H') (xs.zip ys) ts->Q (.ref L) H'
theorem HK {e1 e2:Expr} {ta:TA} {p p2 pos pos2:Pos} (hg:Gl X "list") (hm:X.mg "list"=none) (hg2:Gl X "zip") (hm2:X.mg "zip"=none) (ha:PA X [e1,e2] ta) (hc:X.calm=true:=by rfl)
  (hs:starEach [e1,e2] X.env=[(false,eval e1 X.env),(false,eval e2 X.env)]:=by rfl) (hs2:starEach [e2] X.env=[(false,eval e2 X.env)]:=by rfl)
  (hs3:starEach [Expr.Call (.Name "zip" p2) [e1,e2] [] pos2] X.env=[(false,eval (.Call (.Name "zip" p2) [e1,e2] [] pos2) X.env)]:=by rfl) :
  PE X (.Call (.Name "list" p) [.Call (.Name "zip" p2) [e1,e2] [] pos2] [] pos) (Fo X.K ta):=by
 intro pins s σ H Q I h;refine wpAny_Call_Name_kw (jo I hg hm boot_list ?_);refine PyProof.Rows.callWith_type1 ?_ (by rw[hs3];rfl) rfl;rw[hs3];show wpAny _ _ (spliced ((false,eval (.Call (.Name "zip" p2) [e1,e2] [] pos2) X.env) :: [])) _ _ s
 refine Calls.spliced_cons ?_;refine Call_ (jo I hg2 hm2 boot_zip (PyProof.Rows.callWith_type1 (fY (ha pos2 pins s σ H _ I h) λus s1 ⟨vs,H1,I1,r1,q1⟩=>?_) (by rw[hs,hs2]) (by rw[hs2];rfl)));obtain ⟨l1,l2,xs,ys,e,qx,qy,hl,q⟩:=q1;subst e;obtain ⟨u,v,rfl,ru,rv⟩:=vals2 r1;cases ru;cases rv;obtain ⟨us,rx,px,hz⟩:=I1.list qx;obtain ⟨ws,ry,py,_⟩:=I1.list qy;refine call_zip_2 px.isList py.isList λh' a1 a2 a3 a4 a5 a6 hk=>?_
 refine Calls.spliced_nil ?_;have I2:Inv X pins σ H1 { s1 with heap:=h' }:=I1.kept (t':=s1.toks) hk;have up:∀b o,h'.get? b=some o->(h'.push { cls:=.type "list",data:=.seq #[] }).get? b=some o:=λb o e=>Heap.get?_push_of_some _ e
 have O:Fb.Ok ⟨s1.heap.objs.size+4,s1.heap.objs.size+2,s1.heap.objs.size+3,s1.heap.objs.size,s1.heap.objs.size+1,h'.objs.size,h'.objs.size+1⟩:=by
  rw[a6];exact Pc s1.heap.objs.size
 have old:∀b∈(Fb.mk (s1.heap.objs.size+4) (s1.heap.objs.size+2) (s1.heap.objs.size+3) s1.heap.objs.size (s1.heap.objs.size+1) h'.objs.size (h'.objs.size+1)).all,s1.heap.objs.size<=b:=λb hb=>by
  rw[a6] at hb;simp only[Fb.all,aG,a8,or_false] at hb;rcases hb with rfl | rfl | rfl | rfl | rfl | rfl <;> first | exact fO _ _ | exact aj _
 have gS:(h'.push { cls:=.type "list",data:=.seq #[] }).get? h'.objs.size=some (lobj [] 0):=Heap.get?_push_size _ rfl;refine callType_codes (Q₁:=λob t=>ob=.ref h'.objs.size/\t={ s1 with heap:=h'.push { cls:=.type "list",data:=.seq #[] } }) PySem.F.called_list (PySem.F.typeCall_list_1 _) PySem.F.entry_list_init (code_list_new _ ⟨rfl,rfl⟩) λob t ht=>?_
 obtain ⟨rfl,rfl⟩:=ht;refine ⟨⟨_,gS,rfl⟩,PySem.F.args_list_init_2 _ _,?_⟩
 have L:Ou X pins σ H1 ⟨s1.heap.objs.size+4,s1.heap.objs.size+2,s1.heap.objs.size+3,s1.heap.objs.size,s1.heap.objs.size+1,h'.objs.size,h'.objs.size+1⟩ l1 l2 0 H1 { s1 with heap:=h'.push { cls:=.type "list",data:=.seq #[] } } :=
  ⟨I2.kept (t':=s1.toks) up,aH.refl _,λb hb=>I1.fpOk (old b hb) (I1.hok.fresh (old b hb)),by rw[Heap.size_push];exact aj _,⟨⟨_,_,up _ _ a3⟩,.inl (up _ _ a1)⟩,up _ _ a2,a4.at λo e=>up _ o e,a5.at λo e=>up _ o e⟩
 refine KI (A':=X.A.in1) (I.ok.hd hc) O hz hl qx qy L gS (up _ _ a1) λs' H' ts acc c I' sm fS gS' vs' prs=>⟨rfl,?_⟩
 have nS:H1 h'.objs.size=none:=I1.hok.fresh (old _ (by simp [Fb.all]));have lt:=prs.length;rw[BP] at lt;exact ⟨.ref h'.objs.size,_,I'.track (o:=.lst ts) fS ⟨by lia,acc,c,vs',gS'⟩,rfl,q _ ts _ (sm.trans (aH.new fS.1)) nS aM (Paired.imp' (λ_ _ z=>z.same (aH.new fS.1)) prs)⟩
end
end L2
namespace Nm
def yp:List Int->Int->Int
 | [],m=>m
 | b :: r,m=>yp r (m*(b / g m b))
theorem vP (hm:0 < m) (hb:0 < b):0 < m*(b / g m b):=iC hm (ER (t:=m) hb)
theorem EJ:b∣m*(b / g m b):=by
 have h1:=A3 m b;refine ⟨lo m b,?_⟩;have h2:b / g m b*g m b=b:=yv m b
 calc m*(b / g m b)=lo m b*g m b*(b / g m b):=by rw[h1]
  _=lo m b*(b / g m b*g m b):=by rw[dF,fE (g m b)]
  _=b*lo m b:=by rw[h2,fE]
theorem A5:∀{bs:List Int} {m:Int},0 < m->(∀b∈bs,0 < b)->0 < yp bs m
 | [],_,hm,_=>hm
 | b :: r,m,hm,h=>A5 (bs:=r) (vP hm (h b dt)) λc hc=>h c (ck _ hc)
theorem F6:∀{bs:List Int} {m:Int},m∣yp bs m
 | [],_=>JR _
 | b :: r,m=>Int.dvd_trans (Int.dvd_mul_right m _) (F6 (bs:=r))
theorem F5:∀{bs:List Int} {m b:Int},b∈bs->b∣yp bs m
 | c :: r,m,b,h=>by
  rcases aG.mp h with rfl | h
  ·exact Int.dvd_trans EJ (F6 (bs:=r))
  ·exact F5 (bs:=r) h
end Nm
namespace L2
open PySem PySem.Spec PyProof.Rows Nm
def Fc (K:FG9) (H:Hp) (p:Addr) (ns:List (Int×Int)):Prop:=∃xs,H p=some (.lst xs)/\Paired (λn x=>GO K H x n) ns xs
theorem Fc.same {K:FG9} (h:Fc K H p ns) (e:aH H H'):Fc K H' p ns:=by obtain ⟨xs,g,q⟩:=h;exact ⟨xs,e _ _ g,Paired.imp' (λ_ _ z=>e.num z) q⟩
def FX (K:FG9) (T:String):V->Hp->VK->Prop:=λx H Q=>J9 K T x H Q\/∃a xs b,x=.ref a/\mP K H a xs/\PySem.W.kitOne K (.type "tuple") (.type T)=some b/\Q (.bl b) H
theorem CS:∀{bs:List Int} {m b:Int},yp (bs++[b]) m=yp bs m*(b / g (yp bs m) b)
 | [],_,_=>rfl
 | c :: r,m,b=>CS (bs:=r)
def fv (ns:List (Int×Int)) (B:Int):List Int:=ns.map λn=>n.1*(B / n.2)
def gL (ns:List (Int×Int)):Int:=yp (ns.map (·.2)) 1
def Mx (ns ms:List (Int×Int)):Int:=(List.zipWith (λx y=>x*y) (fv ns (gL ns)) (fv ms (gL ms))).sum
theorem oJ (h:n∈ns):n.2∣gL ns:=F5 (aw.mpr ⟨n,h,rfl⟩)
theorem HH {K:FG9} (h:ta σ H λvs H1=>∃(l1 l2:Addr) (xs ys:List V),vs=[.ref l1,.ref l2]/\bU K H1 l1 xs/\bU K H1 l2 ys/\ys.length=xs.length /\
 ∀L ts H',aH H1 H'->H1 L=none->H' L=some (.lst ts)->Paired (O7 H') (xs.zip ys) ts->Q (.ref L) H'):Fo K ta σ H Q:=h
theorem Tj (hb:0 < b) (h:Sz k b):Sz k (g m b):=h.le (by
 have h1:(g m b).natAbs=Int.gcd m b:=by unfold g;simp
 rw[h1];exact gM (by lia) (by have:=fh (a:=m) (b:=b);exact eF.mpr this |> λz=>by simpa using z))
theorem MT {ts us:List Int} {i:Nat} (h:((ts.map V.int).zip (us.map V.int))[i]?=some pq):∃t u,ts[i]?=some t/\us[i]?=some u/\pq=(.int t,.int u):=by
 rw[Q6,aD,aD] at h;obtain ⟨h1,h2⟩:=h;cases e1:ts[i]? with
 | none=>rw[e1] at h1;cases h1
 | some t =>
  cases e2:us[i]? with
  | none=>rw[e2] at h2;cases h2
  | some u =>
   rw[e1] at h1;rw[e2] at h2;refine ⟨t,u,rfl,rfl,?_⟩;cases pq;simp at h1 h2;rw[h1,h2]
def JZ (K:FG9):Sp:=λvs H Q _=>∃x n,vs=[x]/\GO K H x n/\xn n/\∀H',aH H H'->Q (.bl true) H'
inductive xF (K:FG9) (vs:List V) (H:Hp) (Q:VK) (E9:XK):Prop
 | mk (p:Addr) (ns:List (Int×Int)):vs=[.ref p,.int ns.length]->Fc K H p ns->ns.length<=1000->(∀n∈ns,xn n)->(∀H',aH H H'->Q (.bl true) H')->xF K vs H Q E9
theorem z5 {X:Cx} {a:Expr} {ta:TE} {pos:Pos} {c:Str} {T:String} {p p2:Pos} (hg:Gl X "isinstance") (hm:X.mg "isinstance"=none) (hb:bootBuiltins c=some (.type T)) (hmc:X.mg c=none) (ha:PE X a ta) (hgc:Gl X c:=by rfl) (hn:c≠"__name__":=by decide)
  (hd:(c == ("__debug__":Str))=false:=by decide) (he:starEach [a,.Name c p2] X.env=[(false,eval a X.env),(false,eval (.Name c p2) X.env)]:=by rfl)
  (hpl:(backTo pos (starEach [.Name c p2] X.env)).any (·.1)=false:=by rfl) (he2:starEach [.Name c p2] X.env=[(false,eval (.Name c p2) X.env)]:=by rfl):PE X (.Call (.Name "isinstance" p) [a,.Name c p2] [] pos) (Rw (FX X.K T) ta):=by
 intro pins s σ H Q I h;refine wpAny_Call_Name_kw (jo I hg hm PyProof.Rows.boot_isinstance ?_);have hA:PA X [a,.Name c p2] (lY ta (lY (tC (.ty T)) DP)):=ae ha (ae (IZ hgc hmc hb rfl hn hd) ak he2) (by rw[he,he2])
 have hq:lY ta (lY (tC (.ty T)) DP) σ H (λvs H1=>∃x,vs=[x,.ty T]/\FX X.K T x H1 Q):=by
  show ta σ H λx H1=>∃x',[x,V.ty T]=[x',V.ty T]/\FX X.K T x' H1 Q
  have e:(λx H1=>∃x',[x,V.ty T]=[x',V.ty T]/\FX X.K T x' H1 Q)=λx H1=>FX X.K T x H1 Q:=by
   funext x H1;apply propext;constructor
   ·rintro ⟨x',e,q⟩;cases e;exact q
   ·intro q;exact ⟨x,rfl,q⟩
  rw[e];exact h
 refine PyProof.Rows.callWith_builtin1 (fY (hA pos pins s σ H _ I hq) λus s1 ⟨vs,H1,I1,r1,x,e,q1⟩=>?_) (by rw[he,he2]) hpl;subst e;obtain ⟨u,w',rfl,ru,rt⟩:=vals2 r1;cases rt;rcases q1 with ⟨t,bb,ty,ek,q⟩ | ⟨ad,xs,bb,rfl,hs,ek,q⟩
 ·exact yt I1 ru ty ek λtk=>⟨.bl bb,H1,I1.tok tk,rfl,q⟩
 ·cases ru;obtain ⟨its,_,⟨o,g1,g2,_⟩,_⟩:=I1.tuple hs;exact du PySem.W.kitx_tuple I1.kIn ⟨o,g1,g2⟩ ek (λz=>nomatch z) λtk=>⟨.bl bb,H1,I1.tok tk,rfl,q⟩
theorem Lj (h:H l=some (.lst [x])) (hk:k<=1000) (q:∀p H',aH H H'->H p=none->H' p=some (.lst (List.replicate k x))->Q (.ref p) H'):Sh (.ref l) (.int k) H Q :=
 ⟨l,k,[x],rfl,rfl,h,by lia,by lia,aT (bO (by simp;lia)),λp hp=>q p _ (aH.new hp) hp (by rw[aM];simp)⟩
theorem uZ {k:Nat} (h:k<=xs.length):tx xs none (some (k:Int))=xs.take k:=by
 unfold tx;rw[HT.Ax,HT.Ek,Nat.min_eq_left h];simp
theorem MD {k:Nat}:tx xs (some (k:Int)) none=xs.drop k:=by
 unfold tx;rw[HT.Ax,HT.Ek];by_cases h:k<=xs.length
 ·rw[Nat.min_eq_left h,aL (by simp)]
 ·rw[Nat.min_eq_right (by lia),iE (by lia),iE (by lia)];simp
theorem uN {α β:Type} {F:α->β->Prop} {x:α} {y:β} (h:F x y):∀m:Nat,Paired F (List.replicate m x) (List.replicate m y)
 | 0=>.nil
 | m+1=>.cons h (uN h m)
theorem fz (h:a < n):Ky n (a:Int)=some a:=by
 unfold Ky;rw[if_pos (by lia),if_pos (by lia),Int.toNat_natCast]
theorem MC {k:Nat}:tx xs none (some (k:Int))=xs.take k:=by
 by_cases h:k<=xs.length
 ·exact uZ h
 ·unfold tx;rw[HT.Ax,HT.Ek,Nat.min_eq_right (by lia),aL (by simp),aL (by lia)];rfl
theorem eY {α β:Type} {F:α->β->Prop}:∀{l1:List α} {l2:List β} (_:Paired F l1 l2) (k:Nat),Paired F (l1.take k) (l2.take k)
 | _,_,.nil,k=>by simp;exact .nil
 | _,_,.cons h r,0=>.nil
 | _,_,.cons h r,k+1=>.cons h (eY r k)
def NJ (K:FG9):List V->Hp->VK->Prop:=λxs H Q=>∃p ys,xs=[.ref p]/\(bU K H p ys\/mP K H p ys)/\∀l,H l=none->Q (.ref l) (upd H l (.lst ys))
theorem iB (K:FG9) (hK:X.K=K):oP X (.type "list") (NJ K):=by subst hK;exact wG
theorem aH.none (s:aH H H') (h:H' l=Option.none):H l=Option.none:=by
 cases e:H l with
 | none=>rfl
 | some o=>have:=s _ _ e;rw[h] at this;cases this
def O8 (K:FG9) (H:Hp) (p:Addr) (rows:List (List (Int×Int))):Prop:=∃xs,H p=some (.lst xs)/\Paired (λns x=>∃q,x=V.ref q/\Fc K H q ns) rows xs
theorem KW (h:b.natAbs<=1000000):Sz 20 b:=bB h (by decide)
theorem c5.none (u:c5 b H H') (B:ip H' b) (h:H' l=Option.none):H l=Option.none:=by
 cases e:H l with
 | none=>rfl
 | some o =>
  by_cases z:l=b
  ·obtain ⟨_,_,_,_,_,e2,_⟩:=B;rw[<- z,h] at e2;cases e2
  ·have:=u.1 l o e z;rw[h] at this;cases this
inductive An (K:FG9) (vs:List V) (H:Hp) (Q:VK) (E9:XK):Prop
 | mk (p:Addr) (rows:List (List (Int×Int))) (m:Nat):vs=[.ref p,.int rows.length,.int m]->O8 K H p rows->rows.length<=1000->m<=1000->((∀ns∈rows,ns.length=m/\∀n∈ns,xn n))->(∀H',aH H H'->Q (.bl true) H')->An K vs H Q E9
end L2
namespace Nm
def nm (q:Rat):Int×Int:=(q.num,(q.den:Int))
theorem gU (q:Rat):0 < (nm q).2:=by have:=q.den_pos;show 0 < (q.den:Int);lia
theorem EE (q:Rat):Int.gcd (nm q).1 (nm q).2=1:=q.reduced
theorem Qu (h:nm p=nm q):p=q:=by
 have h1:p.num=q.num:=congrArg Prod.fst h;have h2:(p.den:Int)=q.den:=congrArg Prod.snd h;exact Rat.ext h1 (by lia)
theorem kX (q:Rat):(q.num:Rat)=q*(q.den:Rat):=by
 have h:=Rat.num_divInt_den q;rw[Rat.divInt_eq_div] at h
 have hd:((q.den:Int):Rat)≠0:=by
  intro z;have z:=zH.mp z;have:=q.den_pos
  lia
 have e:((q.den:Int):Rat)=(q.den:Rat):=bf _
 calc (q.num:Rat)=(q.num:Rat) / ((q.den:Int):Rat)*((q.den:Int):Rat):=(Rat.div_mul_cancel hd).symm
  _=q*(q.den:Rat):=by rw[h,e]
theorem Sm (hb:0 < b) (hg:Int.gcd a b=1) (e:q*(b:Rat)=(a:Rat)):(a,b)=nm q:=by
 have h1:a*(q.den:Int)=q.num*b:=by
  apply dH.mp;rw[a7,a7,<- e,kX,bf];grind
 obtain ⟨e1,e2⟩:=uniq hb (gU q) hg (EE q) h1;exact Prod.ext e1 e2
theorem p9 {t b:Int} (hb:0 < b) (e:q*(b:Rat)=(t:Rat)):(lo t b,hi t b)=nm q:=by
 refine Sm (ER hb) (A1 (by lia)) ?_;have h:=A2 t b;have hb':(b:Rat)≠0:=λz=>by have:=zH.mp z;lia
 have h2:((lo t b:Int):Rat)*(b:Rat)=(t:Rat)*((hi t b:Int):Rat):=by rw[<- a7,h,a7]
 rw[<- e] at h2;have h3:(q*((hi t b:Int):Rat) - ((lo t b:Int):Rat))*(b:Rat)=0:=by grind
 rcases MO.mp h3 with h4 | h4
 ·grind
 ·exact absurd h4 hb'
def Fr (M V:Nat) (q:Rat):Prop:=∃z:Int,q*(M:Rat)=(z:Rat)/\z.natAbs<=V*M
theorem Fr.mono (h:Fr M V q) (l:V<=V'):Fr M V' q:=by obtain ⟨z,e,b⟩:=h;exact ⟨z,e,ai b (ay _ l)⟩
theorem Fr.scale (h:Fr M V q) (k:Nat):Fr (M*k) V q:=by
 obtain ⟨z,e,b⟩:=h;refine ⟨z*k,?_,?_⟩
 ·rw[BM,a7,<- e,bf,Rat.mul_assoc]
 ·rw[eU,c7,<- b8];exact ay _ b
theorem Fr.scaleL (h:Fr M V q) (k:Nat):Fr (k*M) V q:=by rw[cw];exact h.scale k
theorem Fr.dvd (h:Fr M V q) (d:M∣N):Fr N V q:=by obtain ⟨k,rfl⟩:=d;exact h.scale k
theorem Fr.add (h:Fr M V p) (h':Fr M W q):Fr M (V+W) (p+q):=by
 obtain ⟨z,e,b⟩:=h;obtain ⟨z',e',b'⟩:=h';refine ⟨z+z',by rw[BO,<- e,<- e',Rat.add_mul],?_⟩;rw[DB];have:=Int.natAbs_add_le z z'
 lia
theorem Fr.neg (h:Fr M V q):Fr M V (-q):=by
 obtain ⟨z,e,b⟩:=h;exact ⟨-z,by rw[de,<- e,Rat.neg_mul],by rw[jA];exact b⟩
theorem Fr.mul (h:Fr M V p) (h':Fr N W q):Fr (M*N) (V*W) (p*q):=by
 obtain ⟨z,e,b⟩:=h;obtain ⟨z',e',b'⟩:=h';refine ⟨z*z',?_,?_⟩
 ·rw[BM,a7,<- e,<- e'];grind
 ·rw[eU]
  calc z.natAbs*z'.natAbs<=(V*M)*(W*N):=aJ b b'
   _=V*W*(M*N):=by rw[b8,Nat.mul_left_comm M,<- b8]
theorem Fr.zero:Fr M V 0:=⟨0,by simp,by simp⟩
theorem Fr.int {i:Int} (h:i.natAbs<=V):Fr M V (i:Rat):=⟨i*M,by rw[a7,bf],by rw[eU,c7];exact ay _ h⟩
theorem Fr.den (h:Fr M V q):(q.den:Int)∣(M:Int):=by
 obtain ⟨z,e,b⟩:=h
 have h1:q.num*(M:Int)=z*(q.den:Int):=by
  apply dH.mp;rw[a7,a7,<- e,kX,bf,bf];grind
 have h2:(q.den:Int)∣q.num*(M:Int):=⟨z,by rw[h1,fE]⟩;exact qi (by rw[kb];exact EE q) h2
theorem Fr.den_le (h:Fr M V q) (hM:0 < M):q.den<=M:=gM hM (mN.mp h.den)
theorem Fr.num_le (h:Fr M V q) (hM:0 < M):q.num.natAbs<=V*M:=by
 have hd:=h.den;obtain ⟨z,e,b⟩:=h;obtain ⟨k,hk⟩:=mN.mp hd;have hk0:k≠0:=λz=>by rw[z,JO] at hk;lia
 have h1:z=q.num*(k:Int):=by
  apply dH.mp;rw[a7,<- e,kX,bf,hk,BM];grind
 rw[h1] at b;exact ai (nO (by lia)) b
theorem Fr.own (q:Rat) (h:q.num.natAbs<=V):Fr q.den V q:=⟨q.num,(kX q).symm,ai h (dn _ q.den_pos)⟩
theorem Fr.sz (h:Fr M V q) (hM:0 < M) (h1:M<=2^k) (h2:V<=2^j):Sz (j+k+1) (nm q).1/\Sz (k+1) (nm q).2:=by
 constructor
 ·show q.num.natAbs < 2^(j+k+1)
  have h3:=h.num_le hM;have h4:V*M<=2^j*2^k:=aJ h2 h1;rw[gI,bg];have:=Nat.two_pow_pos (j+k);rw[bg] at this
  lia
 ·show (q.den:Int).natAbs < 2^(k+1)
  have h3:=h.den_le hM;rw[c7,gI];have:=Nat.two_pow_pos k
  lia
theorem Fr.sum {M V:Nat}:∀{l:List Rat},(∀x∈l,Fr M V x)->Fr M (l.length*V) l.sum
 | [],_=>by simp;exact Fr.zero
 | x :: r,h=>by
  rw[List.sum_cons,bD,gH,nk];exact (h x (.head _)).add (Fr.sum λy hy=>h y (.tail _ hy))
def cS (xs ys:List Rat):Rat:=(List.zipWith (λx y=>x*y) xs ys).sum
theorem Fr.dot (h:∀x∈xs,Fr M V x) (h':∀y∈ys,Fr N W y):Fr (M*N) (xs.length*(V*W)) (cS xs ys):=by
 have q:=Fr.sum (M:=M*N) (V:=V*W) (l:=List.zipWith (λx y=>x*y) xs ys) λz hz=>by
  obtain ⟨i,hi,e⟩:=aK hz;rw[jz] at e;rw[<- e];exact (h _ (aE _)).mul (h' _ (aE _))
 exact q.mono (ay _ (by rw[cJ];lia))
theorem yx (xs ys:List Rat):cS xs ys=cS ys xs:=by
 unfold cS;rw[List.zipWith_comm];congr 2;funext a b;exact b6 ..
theorem z7:∀{bs:List Int} {m M:Int},0 < m->m∣M->(∀b∈bs,0 < b/\b∣M)->yp bs m∣M
 | [],_,_,_,h,_=>h
 | b :: r,m,M,hm,h,hb=>by
  have b1:=hb b dt;refine z7 (bs:=r) (vP hm b1.1) ?_ λc hc=>hb c (ck _ hc)
  have gp:0 < g m b:=A8 (by lia);have e1:=A3 m b;have e2:=yv m b;obtain ⟨u,hu⟩:=h;obtain ⟨v,hv⟩:=b1.2
  have h3:lo m b*u=hi m b*v:=by
   apply uv (show g m b≠0 by lia)
   calc lo m b*u*g m b=lo m b*g m b*u:=by rw[dF,fE u,<- dF]
    _=m*u:=by rw[e1]
    _=M:=hu.symm
    _=b*v:=hv
    _=hi m b*g m b*v:=by rw[e2]
    _=hi m b*v*g m b:=by rw[dF,fE (g m b),<- dF]
  have h4:hi m b∣lo m b*u:=⟨v,h3⟩;have h5:hi m b∣u:=qi (by rw[kb];exact A1 (by lia)) h4;obtain ⟨w,hw⟩:=h5;refine ⟨w,?_⟩;show M=m*hi m b*w
  rw[hu,hw,dF]
theorem EW (hb:0 < b) (d:a∣b) (h:Sz k b):Sz k a:=h.le (gM (by lia) (eF.mpr d))
end Nm
namespace Nm
def Dr (W:Nat) (x:Rat):Prop:=x.num.natAbs<=W/\x.den<=W
def vC:List Nat->Nat
 | []=>1
 | a :: r=>a*vC r
theorem xZ:∀{l:List Nat},(∀a∈l,0 < a)->0 < vC l
 | [],_=>Nat.one_pos
 | a :: r,h=>bQ (h a (.head _)) (xZ λb hb=>h b (.tail _ hb))
theorem ya:∀{l:List Nat} {a:Nat},a∈l->a∣vC l
 | b :: r,a,h=>by
  rcases aG.mp h with rfl | h
  ·exact JP ..
  ·exact xv (ya h) (dO ..)
theorem AE {k:Nat}:∀{l:List Nat},(∀a∈l,a<=2^k)->vC l<=2^(k*l.length)
 | [],_=>by simp [vC]
 | a :: r,h=>by
  rw[bD,Nat.mul_succ,bg,cw (2^(k*r.length))];exact aJ (h a (.head _)) (AE λb hb=>h b (.tail _ hb))
def GF (M V:Nat) (rows:LR9):Prop:=∀xs∈rows,∀x∈xs,Fr M V x
def Q1 (c n i:Nat) (rows:LR9):Prop:=∃M,0 < M/\M<=2^(i*(c*n+2))/\GF M (2^(20+2*i)) rows
theorem QI:Q1 c n 0 []:=⟨1,by decide,by simp,λ_ h=>nomatch h⟩
theorem QJ (c n i:Nat):(i+1)*(c*n+2)=i*(c*n+2)+(c*n+2):=gH ..
theorem N6 (h:Q1 c n i rows) (hl:xs.length=n) (hd:∀x∈xs,Dr (2^c) x) (hc:c<=20):Q1 c n (i+1) (rows++[xs]):=by
 obtain ⟨M,h0,h1,h2⟩:=h
 have dp:0 < vC (xs.map (·.den)):=xZ λa ha=>by
  obtain ⟨x,_,rfl⟩:=aw.mp ha;exact x.den_pos
 have dl:vC (xs.map (·.den))<=2^(c*n):=by
  have:=AE (k:=c) (l:=xs.map (·.den)) λa ha=>by
   obtain ⟨x,hx,rfl⟩:=aw.mp ha;exact (hd x hx).2
  rwa [ag,hl] at this
 refine ⟨M*vC (xs.map (·.den)),bQ h0 dp,?_,λys hy x hx=>?_⟩
 ·rw[QJ,bg];exact aJ h1 (ai dl (ao (by decide) (by lia)))
 ·rcases az.mp hy with hy | hy
  ·exact ((h2 ys hy x hx).scale _).mono (ao (by decide) (by lia))
  ·have e:ys=xs:=by simpa using hy
   subst e;have f:Fr x.den (2^c) x:=Fr.own x (hd x hx).1;have g:=(f.dvd (ya (aw.mpr ⟨x,hx,rfl⟩))).scaleL M;exact g.mono (ao (by decide) (by lia))
def bC (rows:LR9) (w:Nat):LR9:=(List.range w).map λj=>rows.map λxs=>xs.getD j 0
def gO (one other:LR9) (w:Nat):LR9:=one.map λxs=>(bC other w).map λys=>cS ys xs
theorem cO:(bC rows w).length=w:=by simp [bC]
theorem lO:∀ys∈bC rows w,ys.length=rows.length:=λys hy=>by
 obtain ⟨j,_,rfl⟩:=aw.mp hy;exact ag ..
theorem getD_map {α:Type} {l:List α} {f:α->Rat} (h:i < l.length):(l.map f).getD i 0=f l[i]:=by
 rw[aa,aD,af h];rfl
end Nm
namespace L2
open PySem PySem.Spec PyProof.Rows Nm
theorem c5.sqt {K:FG9} (u:c5 b H H') (B:ip H b) (h:mP K H a xs):mP K H' a xs:=by
 rcases h with (h | ⟨o,h⟩) | h
 ·exact .inl (.inl (u.tup B h))
 ·exact .inl (.inr ⟨o,u.other (λz=>by obtain ⟨_,_,_,_,_,e,_⟩:=B;rw[z,e] at h;cases h) h⟩)
 ·exact .inr h
theorem K3 {K:FG9} (h:mP K H a xs) (hl:H l=some (.lst ys)):mP K (upd H l o) a xs:=by
 rcases h with (h | ⟨o,h⟩) | h
 ·exact .inl (.inl (by rw[bN λz=>by rw[z,hl] at h;cases h];exact h))
 ·exact .inl (.inr ⟨o,by rw[bN λz=>by rw[z,hl] at h;cases h];exact h⟩)
 ·exact .inr h
def cB (K:FG9) (H:Hp) (q:Rat) (x:V):Prop:=GO K H x (nm q)
section
variable {K:FG9} {H H':Hp} {q:Rat} {x:V} {b l p:Addr} {qs:List Rat}
theorem cB.same (h:cB K H q x) (e:aH H H'):cB K H' q x:=e.num h
theorem cB.upto (h:cB K H q x) (u:c5 b H H') (B:ip H b):cB K H' q x:=by obtain ⟨p,e,s⟩:=h;exact ⟨p,e,u.sqt B s⟩
theorem cB.updL (h:cB K H q x) (hl:H l=some (.lst ys)):cB K (upd H l o) q x:=by obtain ⟨p,e,s⟩:=h;exact ⟨p,e,K3 s hl⟩
theorem cB.mk (h:H r=some (.tup [.int a,.int c])) (e:(a,c)=nm q):cB K H q (.ref r):=⟨r,rfl,by rw[<- e];exact mP.of h⟩
def dI (K:FG9) (H:Hp) (p:Addr) (qs:List Rat):Prop:=∃xs,H p=some (.lst xs)/\Paired (cB K H) qs xs
theorem dI.same (h:dI K H p qs) (e:aH H H'):dI K H' p qs:=by obtain ⟨xs,g,r⟩:=h;exact ⟨xs,e _ _ g,Paired.imp' (λ_ _ z=>z.same e) r⟩
theorem dI.upto (h:dI K H p qs) (u:c5 b H H') (B:ip H b) (n:p≠b):dI K H' p qs:=by obtain ⟨xs,g,r⟩:=h;exact ⟨xs,u.other n g,Paired.imp' (λ_ _ z=>z.upto u B) r⟩
theorem dI.updL (h:dI K H p qs) (hl:H l=some (.lst ys)) (n:p≠l):dI K (upd H l o) p qs:=by obtain ⟨xs,g,r⟩:=h;exact ⟨xs,by rw[bN n];exact g,Paired.imp' (λ_ _ z=>z.updL hl) r⟩
theorem rT {α β γ:Type} {F:α->β->Prop} {f:γ->α}:∀{l:List γ} {l2:List β},Paired (λc x=>F (f c) x) l l2->Paired F (l.map f) l2
 | _,_,.nil=>.nil
 | _,_,.cons r t=>.cons r (rT t)
theorem dI.rowK (h:dI K H p qs):Fc K H p (qs.map nm):=by obtain ⟨xs,g,r⟩:=h;exact ⟨xs,g,rT (F:=λn x=>GO K H x n) r⟩
def cI (K:FG9) (H0 H:Hp) (qs:List Rat) (x:V):Prop:=∃q,x=V.ref q/\H0 q=none/\dI K H q qs
def bo (K:FG9) (H0 H:Hp) (p:Addr) (rows:LR9):Prop:=∃xs,H p=some (.lst xs)/\Paired (cI K H0 H) rows xs/\V.ref p∉xs
theorem eN {rows:LR9} (h:∃H2,H2 p=none/\Paired (cI K H0 H2) rows ys):V.ref p∉ys:=λhm=>by
 obtain ⟨H2,e,pr⟩:=h;obtain ⟨qs,_,q,z,_,xs,g,_⟩:=dd pr hm;cases z;rw[e] at g;cases g
variable {H0:Hp} {rows:LR9}
theorem cI.same (h:cI K H0 H qs x) (e:aH H H'):cI K H0 H' qs x:=by obtain ⟨q,a,b,c⟩:=h;exact ⟨q,a,b,c.same e⟩
theorem cI.upto (h:cI K H0 H qs x) (u:c5 b H H') (B:ip H b) (nb:H0 b≠none):cI K H0 H' qs x:=by obtain ⟨q,a,c,d⟩:=h;exact ⟨q,a,c,d.upto u B λz=>nb (by rw[<- z];exact c)⟩
theorem cI.weak (h:cI K H0 H qs x) (e:aH H1 H0):cI K H1 H qs x:=by obtain ⟨q,a,b,c⟩:=h;exact ⟨q,a,e.none b,c⟩
theorem bo.same (h:bo K H0 H p rows) (e:aH H H'):bo K H0 H' p rows:=by obtain ⟨xs,g,r,n⟩:=h;exact ⟨xs,e _ _ g,Paired.imp' (λ_ _ z=>z.same e) r,n⟩
theorem bo.upto (h:bo K H0 H p rows) (u:c5 b H H') (B:ip H b) (n:p≠b) (nb:H0 b≠none):bo K H0 H' p rows:=by obtain ⟨xs,g,r,nn⟩:=h;exact ⟨xs,u.other n g,Paired.imp' (λ_ _ z=>z.upto u B nb) r,nn⟩
theorem bo.weak (h:bo K H0 H p rows) (e:aH H1 H0):bo K H1 H p rows:=by obtain ⟨xs,g,r,n⟩:=h;exact ⟨xs,g,Paired.imp' (λ_ _ z=>z.weak e) r,n⟩
theorem bo.gridK (h:bo K H0 H p rows):O8 K H p (rows.map (List.map nm)):=by obtain ⟨xs,g,r,_⟩:=h;exact ⟨xs,g,rT (F:=λns x=>∃q,x=V.ref q/\Fc K H q ns) (Paired.imp' (λ_ _ ⟨q,a,_,c⟩=>⟨q,a,c.rowK⟩) r)⟩
end
def LX:Kind Rat:=So.via nm (λ_ _ e=>Qu e) (λK H x q=>cB K H q x) id
def OW:Kind (List Rat):=Kk LX
def sD:Kind (LR9):=Kk OW
theorem dI.kind {K:FG9} (h:dI K H p qs):OW.R K H (.ref p) qs:=by obtain ⟨xs,g,q⟩:=h;exact ⟨p,xs,rfl,bU.of g,q⟩
theorem bo.kind {K:FG9} (h:bo K H0 H p rows):sD.R K H (.ref p) rows:=by obtain ⟨xs,g,q,_⟩:=h;exact ⟨p,xs,rfl,bU.of g,Paired.imp' (λ_ _ ⟨q,a,_,c⟩=>by rw[a];exact c.kind) q⟩
def mQ (x:Rat):Prop:=Sz 4000 (nm x).1/\Sz 4000 (nm x).2
def Fits (l:List Rat):Prop:=∃M V:Nat,0 < M/\M<=2^900/\V<=2^900/\∀x∈l,Fr M V x
theorem Fits.szn (h:Fits l) (hx:x∈l):mQ x:=by
 obtain ⟨M,V,h0,h1,h2,h3⟩:=h;obtain ⟨a,b⟩:=(h3 x hx).sz h0 h1 h2;exact ⟨a.mono (by decide),b.mono (by decide)⟩
theorem Fits.ok (h:Fits l) (hx:x∈l):xn (nm x):=⟨gU x,EE x,(h.szn hx).1.mono (by decide),(h.szn hx).2.mono (by decide)⟩
theorem Ie {M V:Nat} (h0:0 < M) (h1:M<=2^1800) (h2:V<=2^1810) (h:Fr M V x):mQ x:=by
 obtain ⟨a,b⟩:=h.sz h0 h1 h2;exact ⟨a.mono (by decide),b.mono (by decide)⟩
theorem xC (h:mQ x):xn (nm x):=⟨gU x,EE x,h.1.mono (by decide),h.2.mono (by decide)⟩
inductive oZ (K:FG9) (f:Rat->Rat->Rat) (vs:List V) (H:Hp) (Q:VK) (E9:XK):Prop
 | mk (u v:V) (x y:Rat):vs=[u,v]->cB K H x u->cB K H y v->mQ x->mQ y->(∀r H',aH H H'->cB K H' (f x y) (.ref r)->Q (.ref r) H')->oZ K f vs H Q E9
section
variable {K:FG9} {vs:List V} {H:Hp} {Q:VK} {E:XK}
theorem HL (hf:∀x y:Rat,(f x y)*(((nm x).2*(nm y).2:Int):Rat)=((F (nm x).1 (nm x).2 (nm y).1 (nm y).2:Int):Rat)) (h:oZ K f vs H Q E):IQ K F vs H Q E:=by
 obtain ⟨u,v,x,y,rfl,⟨p,rfl,hp⟩,⟨q,rfl,hq⟩,⟨s1,s2⟩,⟨s3,s4⟩,k⟩:=h;refine ⟨p,q,_,_,_,_,rfl,hp,hq,gU x,gU y,s1,s2,s3,s4,λr H' s g=>k r H' s (cB.mk g ?_)⟩;exact p9 (iC (gU x) (gU y)) (hf x y)
theorem pP (x:Rat):(((nm x).1:Int):Rat)=x*(((nm x).2:Int):Rat):=by
 show (x.num:Rat)=x*(((x.den:Nat):Int):Rat)
 rw[kX,bf]
theorem JD (h:oZ K (λx y=>x+y) vs H Q E):IQ K O2 vs H Q E:=HL (λx y=>by
 unfold O2;rw[BO,a7,a7,a7,pP,pP];grind) h
theorem zX (h:oZ K (λx y=>x - y) vs H Q E):IQ K Mq vs H Q E:=HL (λx y=>by
 unfold Mq;rw[BN,a7,a7,a7,pP,pP];grind) h
theorem Jf (h:oZ K (λx y=>x*y) vs H Q E):IQ K Mp vs H Q E:=HL (λx y=>by
 unfold Mp;rw[a7,a7,pP,pP];grind) h
end
def Il (M:Int) (ns:List (Int×Int)):Prop:=0 < M/\Sz 4400 M/\∀n∈ns,0 < n.2/\n.2∣M/\Sz 4400 n.1
theorem Il.bot (h:Il M ns):0 < gL ns/\Sz 4400 (gL ns):=by
 have hb:∀b∈ns.map (·.2),0 < b/\b∣M:=λb hb=>by
  obtain ⟨n,hn,rfl⟩:=aw.mp hb;exact ⟨(h.2.2 n hn).1,(h.2.2 n hn).2.1⟩
 exact ⟨A5 (by decide) λb q=>(hb b q).1,EW h.1 (z7 (by decide) (Int.one_dvd _) hb) h.2.1⟩
inductive K4 (K:FG9) (vs:List V) (H:Hp) (Q:VK) (E9:XK):Prop
 | mk (p:Addr) (bs:List Int) (M:Int):vs=[.ref p]->bU K H p (bs.map V.int)->0 < M->Sz 4400 M->((∀b∈bs,0 < b/\b∣M))->Q (.int (yp bs 1)) H->K4 K vs H Q E9
inductive K5 (K:FG9) (vs:List V) (H:Hp) (Q:VK) (E9:XK):Prop
 | mk (p:Addr) (ns:List (Int×Int)) (M:Int):vs=[.ref p]->Fc K H p ns->ns.length<=1000->Il M ns->(∀H',aH H H'->Q (.int (gL ns)) H')->K5 K vs H Q E9
inductive Fv (K:FG9) (vs:List V) (H:Hp) (Q:VK) (E9:XK):Prop
 | mk (p:Addr) (ns:List (Int×Int)) (M:Int) (B:Int):vs=[.ref p,.int B]->Fc K H p ns->ns.length<=1000->Il M ns->0 < B->Sz 4400 B->(∀r H',H r=none->aH H H'->H' r=some (.lst ((fv ns B).map V.int))->Q (.ref r) H')->Fv K vs H Q E9
theorem Fn (h:Il M ns) (hB:0 < B) (sB:Sz 4400 B) (ht:t∈fv ns B):Sz 8800 t:=by
 obtain ⟨n,hn,rfl⟩:=aw.mp ht;have hp:=h.2.2 n hn
 have sq:Sz 4400 (B / n.2):=sB.le (by
  rw[Q7 (by lia)];exact Nat.div_le_self ..)
 exact (hp.2.2.mul sq).mono (by lia)
theorem qT (h:(nm x).2∣B):(((nm x).1*(B / (nm x).2):Int):Rat)=x*(B:Rat):=by
 obtain ⟨k,rfl⟩:=h;have hp:=gU x;rw[Int.mul_ediv_cancel_left _ (by lia),a7,a7,pP];grind
theorem Gv {B C:Int}:∀{xs ys:List Rat},(∀x∈xs,(nm x).2∣B)->(∀y∈ys,(nm y).2∣C)->(((List.zipWith (λx y=>x*y) (fv (xs.map nm) B) (fv (ys.map nm) C)).sum:Int):Rat)=cS xs ys*((B:Rat)*(C:Rat))
 | [],ys,_,_=>by simp [fv,cS]
 | x :: xs,[],_,_=>by simp [fv,cS]
 | x :: xs,y :: ys,h1,h2=>by
  have ih:=Gv (B:=B) (C:=C) (xs:=xs) (ys:=ys) (λz hz=>h1 z (.tail _ hz)) (λz hz=>h2 z (.tail _ hz));have e1:=qT (h1 x (.head _));have e2:=qT (h2 y (.head _));have e3:(List.zipWith (λx y=>x*y) (fv ((x :: xs).map nm) B) (fv ((y :: ys).map nm) C)).sum=((nm x).1*(B / (nm x).2))*((nm y).1*(C / (nm y).2))+(List.zipWith (λx y=>x*y) (fv (xs.map nm) B) (fv (ys.map nm) C)).sum:=rfl;have e4:cS (x :: xs) (y :: ys)=x*y+cS xs ys:=rfl;rw[e3,e4,BO,a7,ih,e1,e2];grind
theorem Oe (h1:0 < gL (xs.map nm)) (h2:0 < gL (ys.map nm)):(lo (Mx (xs.map nm) (ys.map nm)) (gL (xs.map nm)*gL (ys.map nm)),hi (Mx (xs.map nm) (ys.map nm)) (gL (xs.map nm)*gL (ys.map nm)))=nm (cS xs ys):=by
 refine p9 (iC h1 h2) ?_;unfold Mx;rw[Gv (λx hx=>oJ (aw.mpr ⟨x,hx,rfl⟩)) (λx hx=>oJ (aw.mpr ⟨x,hx,rfl⟩)),a7]
inductive Fu (K:FG9) (vs:List V) (H:Hp) (Q:VK) (E9:XK):Prop
 | mk (p:Addr) (w:Nat) (H0:Hp) (rows:LR9):vs=[.ref p,.int w]->bo K H0 H p rows->rows.length<=1000->w<=1000->(∀xs∈rows,xs.length=w)->(∀r H',H r=none->aH H H'->bo K H H' r (bC rows w)->Q (.ref r) H')->Fu K vs H Q E9
def kq (m:Nat) (a:Int):List Rat:=(List.range m).map λ(i:Nat)=>if ((i:Nat):Int)=a then 1 else 0
def cW (m:Nat):LR9:=(List.range m).map λ(i:Nat)=>kq m i
inductive Fs (K:FG9) (vs:List V) (H:Hp) (Q:VK) (E9:XK):Prop
 | mk (m:Nat) (a:Int):vs=[.int m,.int a]->m<=1000->(∀r H',H r=none->aH H H'->dI K H' r (kq m a)->Q (.ref r) H')->Fs K vs H Q E9
def JV (K:FG9):Sp:=λvs H Q _=>∃m:Nat,vs=[.int m]/\m<=1000/\∀r H',H r=none->aH H H'->bo K H H' r (cW m)->Q (.ref r) H'
inductive Ak (K:FG9) (vs:List V) (H:Hp) (Q:VK) (E9:XK):Prop
 | mk (b:Addr) (w:Nat):vs=[.ref b,.int w]->ip H b->1<=w->w<=1000000->(∀r x H',Dr (max w 6) x->cB K H' x (.ref r)->ip H' b->c5 b H H'->Q (.ref r) H')->Ak K vs H Q E9
inductive FH (K:FG9) (vs:List V) (H:Hp) (Q:VK) (E9:XK):Prop
 | mk (b:Addr) (m w:Nat):vs=[.ref b,.int m,.int w]->ip H b->m<=1000->1<=w->w<=1000000->(∀r xs H',H r=none->dI K H' r xs->xs.length=m->(∀x∈xs,Dr (max w 6) x)->ip H' b->c5 b H H'->Q (.ref r) H')->FH K vs H Q E9
inductive Fx (K:FG9) (vs:List V) (H:Hp) (Q:VK) (E9:XK):Prop
 | mk (p q:Addr) (xs ys:List Rat):vs=[.ref p,.ref q]->dI K H p xs->dI K H q ys->ys.length=xs.length->xs.length<=1000->(∀x∈xs,mQ x)->(∀y∈ys,mQ y)->(∀r H',H r=none->aH H H'->dI K H' r (List.zipWith (λx y=>x+y) xs ys)->Q (.ref r) H')->Fx K vs H Q E9
inductive K6 (K:FG9) (vs:List V) (H:Hp) (Q:VK) (E9:XK):Prop
 | mk (u:V) (q:Addr) (c:Rat) (ys:List Rat):vs=[u,.ref q]->cB K H c u->mQ c->dI K H q ys->ys.length<=1000->(∀y∈ys,mQ y)->(∀r H',H r=none->aH H H'->dI K H' r (ys.map λy=>c*y)->Q (.ref r) H')->K6 K vs H Q E9
inductive Ap (K:FG9) (vs:List V) (H:Hp) (Q:VK) (E9:XK):Prop
 | mk (p:Addr) (H0:Hp) (rows:LR9):vs=[.ref p]->bo K H0 H p rows->rows.length<=1000->(∀xs∈rows,xs.length<=1000)->(∀r H',H r=none->aH H H'->bo K H H' r rows->Q (.ref r) H')->Ap K vs H Q E9
section
variable {K:FG9} {a:Addr} {xs:List V} {g:TG} {tf:TT} {te:TE} {Q:VK} {σ₀:St} {H:Hp} {α β:Type}
theorem cN {F:Hp->α->V->Prop} (G:Hp->β->V->Prop) (f:α->β) (hx:H a=some (.lst xs)) (pf:Paired (F H) as xs) (hl:as.length<=1000)
  (hF:∀{H H' c x},F H c x->aH H H'->F H' c x) (hG:∀{H H' c x},G H c x->aH H H'->G H' c x)
  (hs:∀(i:Nat) c x H' NY NN,as[i]?=some c->aH H H'->F H' c x->(∀y H2,aH H' H2->G H2 (f c) y->NY y H2)->qV σ₀ g tf te x H' NY NN)
  (hd:∀ys H' p,H p=none->aH H H'->H' p=some (.lst ys)->Paired (G H') (as.map f) ys->(∃H2,H2 p=none/\Paired (G H2) (as.map f) ys)->Q (.ref p) H'):sY (Ow K a) σ₀ g tf te Q H:=by
 have lx:=pf.length;refine dJ (K:=K) (xs:=xs) (λi ys H'=>aH H H'/\Paired (G H') ((as.take i).map f) ys) (aT (bO (by lia))) ⟨aH.refl _,.nil⟩ (λi ys H' _ ⟨s,_⟩=>bU.of (s _ _ hx)) ?_ ?_
 ·rintro i x ys H' hx' hlen ⟨s,pr⟩;obtain ⟨c,ec,hc⟩:=cX pf hx';refine hs i c x H' _ _ ec s (hF hc s) λy H2 s2 gy=>⟨s.trans s2,?_⟩
  rw[take_snoc ec,b9];exact cg (Paired.imp' (λ_ _ z=>hG z s2) pr) (.cons gy .nil)
 ·rintro ys H' hy ⟨s,pr⟩ p hp;rw[aL (by lia)] at pr;exact hd ys _ p (s.none hp) (s.trans (aH.new hp)) aM (Paired.imp' (λ_ _ z=>hG z (aH.new hp)) pr) ⟨H',hp,pr⟩
theorem gD (G:Hp->β->V->Prop) (f:Nat->β) (hl:n<=1000) (hG:∀{H H' c x},G H c x->aH H H'->G H' c x)
  (hs:∀(i:Nat) H' NY NN,i < n->aH H H'->(∀y H2,aH H' H2->G H2 (f i) y->NY y H2)->qV σ₀ g tf te (.int i) H' NY NN)
  (hd:∀ys H' p,H p=none->aH H H'->H' p=some (.lst ys)->Paired (G H') ((List.range n).map f) ys->(∃H2,H2 p=none/\Paired (G H2) ((List.range n).map f) ys)->Q (.ref p) H'):sY (GV 0 n) σ₀ g tf te Q H:=by
 refine mK (λi ys H'=>aH H H'/\Paired (G H') ((List.range i).map f) ys) (aT (bO (by lia))) ⟨aH.refl _,.nil⟩ ?_ ?_
 ·rintro i ys H' hi hlen ⟨s,pr⟩;rw[tw];refine hs i H' _ _ hi s λy H2 s2 gy=>⟨s.trans s2,?_⟩
  rw[lF,b9];exact cg (Paired.imp' (λ_ _ z=>hG z s2) pr) (.cons gy .nil)
 ·rintro ys H' hy ⟨s,pr⟩ p hp;exact hd ys _ p (s.none hp) (s.trans (aH.new hp)) aM (Paired.imp' (λ_ _ z=>hG z (aH.new hp)) pr) ⟨H',hp,pr⟩
theorem yz (G:Hp->β->V->Prop) (C:β->Prop) (hB:ip H b) (hl:n<=1000) (hG:∀{H' H'' c x},G H' c x->c5 b H' H''->ip H' b->G H'' c x)
  (hs:∀(i:Nat) H' NY NN,i < n->c5 b H H'->ip H' b->(∀y c H2,c5 b H' H2->ip H2 b->C c->G H2 c y->NY y H2)->qV σ₀ g tf te (.int i) H' NY NN)
  (hd:∀ys cs H' p,H p=none->c5 b H H'->ip H' b->H' p=some (.lst ys)->cs.length=n->(∀c∈cs,C c)->Paired (G H') cs ys->(∃H2,H2 p=none/\Paired (G H2) cs ys)->Q (.ref p) H'):sY (GV 0 n) σ₀ g tf te Q H:=by
 refine mK (λi ys H'=>c5 b H H'/\ip H' b/\∃cs,cs.length=i/\(∀c∈cs,C c)/\Paired (G H') cs ys) (aT (bO (by lia))) ⟨(aH.refl _).upto,hB,[],rfl,(λ_ z=>nomatch z),.nil⟩ ?_ ?_
 ·rintro i ys H' hi hlen ⟨u,B,cs,lc,hc,pr⟩;rw[tw];refine hs i H' _ _ hi u B λy c H2 u2 B2 cc gy=>⟨u.trans u2,B2,cs++[c],by simp [lc],E7 hc cc,cg (Paired.imp' (λ_ _ z=>hG z u2 B) pr) (.cons gy .nil)⟩
 ·rintro ys H' hy ⟨u,B,cs,lc,hc,pr⟩ p hp;have s:aH H' (upd H' p (.lst ys)):=aH.new hp;exact hd ys cs _ p (u.none B hp) (u.same s) (B.same s) aM lc hc (Paired.imp' (λ_ _ z=>hG z s.upto B) pr) ⟨H',hp,pr⟩
end
section
variable {X:Cx}
theorem d5 {g:TG} {tb:TS} {D:Ends} (Pv:Nat->St->Hp->Prop) (h0:Pv 0 σ H)
  (hs:∀(i:Nat) σ H,i < n->Pv i σ H->g (.int i) σ H λσ2 H2=>tb { D with nx:=Pv (i+1),ct:=Pv (i+1),bk:=D.nx } σ2 H2) (hd:∀σ H,Pv n σ H->D.nx σ H) :
  ∃W:Nat->Nat->St->Hp->Prop,(∃m,W 0 m σ H)/\∀i m σ H,W i m σ H →
   ((GV 0 n).stop i H/\D.nx σ H)\/((GV 0 n).go i H/\∃N:St->Hp->Prop,(∀σ' H',N σ' H'->∃m',m' < m/\W (i+1) m' σ' H')/\∀x H',(GV 0 n).yld i H x H'->g x σ H' λσ2 H2=>tb { D with nx:=N,ct:=N,bk:=D.nx } σ2 H2) :=
 CV (lo:=0) Pv h0 (λi σ H hi p=>by rw[tw];exact hs i σ H hi p) hd
theorem oH:oP X (.type "int") (λxs H Q=>∃b:Bool,xs=[.bl b]/\Q (.int (if b=true then 1 else 0)) H):=by
 intro pins s σ H xs us Q I r h;obtain ⟨b,rfl,q⟩:=h;obtain ⟨u,rfl,ru⟩:=vals1 r;cases ru;exact call_int_bool ⟨.int _,H,I.tok _,⟨_,rfl⟩,q⟩
theorem Cj (K:FG9) (hK:X.K=K):oP X (.builtin "len") (λxs H Q=>∃p ys,xs=[.ref p]/\(bU K H p ys\/mP K H p ys)/\Q (.int ys.length) H):=by subst hK;exact bc
theorem IX {st:Stmt}:PS X st (λ_ _ _=>False):=λ_ _ _ _ _ _ h=>h.elim
end
theorem LR {t b:Int} (hb:0 < b) (h1:t.natAbs<=W) (h2:b.natAbs<=W):∃q:Rat,(lo t b,hi t b)=nm q/\Dr W q/\q*(b:Rat)=(t:Rat):=by
 have hb':(b:Rat)≠0:=λz=>by have:=zH.mp z;lia
 have e:(t:Rat) / (b:Rat)*(b:Rat)=t:=Rat.div_mul_cancel hb';have h:=p9 hb e;refine ⟨_,h,⟨?_,?_⟩,e⟩
 ·have:=congrArg Prod.fst h;have z:=lo_le (t:=t) (b:=b) (by lia);show ((nm ((t:Rat) / (b:Rat))).1).natAbs<=W
  rw[<- this];exact ai z h1
 ·have:=congrArg Prod.snd h;have z:=O0 (t:=t) (b:=b) (by lia);have hd:(((t:Rat) / (b:Rat)).den:Int)=hi t b:=this.symm;have hp:=ER (t:=t) hb
  lia
theorem F9 {K:FG9} (h:Paired (cB K H) qs xs) (hj:j < qs.length):∃v,Ii xs (j:Int)=some v/\cB K H (qs.getD j 0) v:=by
 have hl:=h.length;refine ⟨xs[j]'(by lia),dG (by simp),?_⟩;have:=jI h (i:=j) hj (by lia);rwa [aa,af hj]
theorem CZ {xs ys:List Rat} (h1:i < xs.length) (h2:i < ys.length):cS (xs.take (i+1)) (ys.take (i+1))=cS (xs.take i) (ys.take i)+xs.getD i 0*ys.getD i 0:=by
 have e1:xs[i]?=some (xs.getD i 0):=by rw[aa,af h1];rfl
 have e2:ys[i]?=some (ys.getD i 0):=by rw[aa,af h2];rfl
 unfold cS;rw[take_snoc e1,take_snoc e2,List.zipWith_append (by simp;lia),List.sum_append];simp [iD]
theorem getD_mem {xs:List Rat} (h:i < xs.length):xs.getD i 0∈xs:=by
 rw[aa,af h];exact aE h
theorem Cn {xs ys:List Rat} (h:ys.length=xs.length):List.zipWith (λx y=>x+y) xs ys=(List.range xs.length).map λi=>xs.getD i 0+ys.getD i 0:=by
 apply jw;intro i;rw[cG,aD];by_cases hi:i < xs.length
 ·rw[cR hi,af hi,af (show i < ys.length by lia)];simp [aa,af hi,af (show i < ys.length by lia)]
 ·rw[aS (show (List.range xs.length).length<=i by simp;lia),aS (show xs.length<=i by lia)];rfl
theorem cI.updL {K:FG9} (h:cI K H0 H qs x) (hl:H l=some (.lst ys)) (nl:H0 l≠none):cI K H0 (upd H l o) qs x:=by obtain ⟨q,a,b,c⟩:=h;exact ⟨q,a,b,c.updL hl λz=>nl (by rw[<- z];exact b)⟩
theorem ip.at (B:ip H b):H b≠none:=by obtain ⟨_,_,_,_,_,e,_⟩:=B;rw[e];simp
theorem Inner.at (B:ip H b) (i:Inner H b q):H q≠none:=by
 obtain ⟨q',i',xs,e⟩:=B.inner;rw[<- Inner.inj i' i,e];simp
theorem fW {F:α->β->Prop} {l1:List α} {l2:List β} (h:Paired F l1 l2) (hi:i < l1.length):∃x y,l1[i]?=some x/\l2[i]?=some y/\x∈l1/\F x y:=by
 have hl:=h.length;exact ⟨l1[i],l2[i]'(by lia),by simp,by simp,aE _,jI h hi (by lia)⟩
theorem JB (h1:-(2^64) < i) (h2:i < 2^64):fQ i j:=.inl (.inl ⟨h1,h2⟩)
theorem Og (h1:-(2^64) < j) (h2:j < 2^64):fQ i j:=.inl (.inr ⟨h1,h2⟩)
def Q0 (K : FG9) (l : Addr) : It :=
  ⟨λi H => ∃ xs x, bU K H l xs /\ xs[i]? = some x,
   λi H v H' => ∃ p x, v = .ref p /\ H p = none /\ H' = upd H p (.tup [.int i, x]) /\ ∀ xs, bU K H l xs → xs[i]? = some x,
   λi H => ∃ xs, bU K H l xs /\ xs.length ≤ i⟩
def tnE (e it l:Addr) (i:Nat) (h:Heap):Prop:=(∃old,IsEnum h e it i old)/\h.IsListIter it l i
theorem JT {P:Program} {w:World} {K:FG9} {elts:List Expr} {kk:Nat} {tpos:Pos} (e it l:Addr) (hei:e≠it):Turn P w K (.Tuple elts kk tpos) (Q0 K l) [e,it] e (tnE e it l) where
 mem:=by simp
 obj:=λi h st b hb=>by
  obtain ⟨⟨old,he⟩,⟨o1,g1,c1,d1⟩⟩:=st;simp only[aG,a8,or_false] at hb;rcases hb with rfl | rfl
  ·exact ⟨_,he,λv q=>nomatch q⟩
  ·exact ⟨o1,g1,λv q=>by rw[d1] at q;cases q⟩
 keep:=λi h h' st k=>by
  obtain ⟨⟨old,he⟩,h1⟩:=st;exact ⟨⟨old,k e (by simp) _ he⟩,h1.at λo q=>k it (by simp) o q⟩
 item:=by
  intro X hP hw hK hc i pins s σ H E I hf st hg;subst hP hw hK;obtain ⟨⟨old,he⟩,h1⟩:=st;obtain ⟨xs,x,qx,ex⟩:=hg;obtain ⟨us,rx,px,_⟩:=I.list qx;obtain ⟨u,eu,ru⟩:=rx.get ex;refine wpAny_pyNext_enum_item he h1 px.isList (x:=u) (by simpa using eu) hei λh' a1 a2 a3 a4 hk=>?_
  refine ⟨_,rfl,wpAny_letOwnedTupleGo_enum a1 λh'' he'' hs=>?_⟩;have hT0:H s.heap.objs.size=none:=I.hok.fresh (aj _);have ene:s.heap.objs.size≠e:=JN (Heap.lt_size he)
  have up:∀b o,b∉[e,it]->s.heap.get? b=some o->h''.get? b=some o:=λb o hb q=>by
   simp only[aG,a8,or_false,not_or] at hb;exact (hs.2 b hb.1).trans (hk b o hb.1 hb.2 q)
  have tup:h''.get? s.heap.objs.size=some { cls:=.type "tuple",data:=.seq #[.int i s.toks,u] }:=(hs.2 _ ene).trans a3;have I1:Inv X pins σ H { s with heap:=h'',toks:=s.toks+1 }:=I.moved (g':=s.gens) (d':=s.drawn) (t':=s.toks+1) (ch:=[e,it]) hf up I.bare;have fT:jQ X pins H s.heap.objs.size:=I.fpOk (aj _) hT0;have I2:=I1.track (o:=.tup [.int i,x]) fT ⟨iX rfl,[.int i s.toks,u],.cons ⟨_,rfl⟩ (.cons ru .nil),⟨_,tup,rfl,_,rfl⟩⟩;refine ⟨.ref s.heap.objs.size,_,I2,rfl,⟨_,x,rfl,hT0,rfl,λxs' q=>by rw[I.list_inj q qx];exact ex⟩,?_,λb hb=>?_⟩
  ·exact ⟨⟨_,by simpa using he''⟩,a2.at λo q=>(hs.2 _ hei.symm).trans q⟩
  ·rw[bN]
   ·exact (hf b hb).1
   ·obtain ⟨o1,g1,_⟩:=h1;simp only[aG,a8,or_false] at hb;rcases hb with rfl | rfl
    ·exact ene.symm
    ·exact cU (Heap.lt_size g1)
 done:=by
  intro X hP hw hK hc i pins s σ H E I hf st hg;subst hP hw hK;obtain ⟨⟨old,he⟩,h1⟩:=st;obtain ⟨xs,qx,hend⟩:=hg;obtain ⟨us,rx,px,_⟩:=I.list qx;have lx:=rx.length;refine wpAny_pyNext_enum_end (I.ok.hd hc) he h1 px.isList (by simp;lia) λh' hk=>⟨rfl,?_⟩
  exact I.moved (g':=s.gens) (d':=s.drawn) (t':=s.toks) (ch:=[e,it]) hf (λb o hb q=>hk b o (λz=>hb (by simp [z])) q) I.bare
 self:=λ_ _ _ _ _ st h=>let ⟨⟨_,he⟩,_⟩:=st;wpAny_pyIter_enum he h
section
variable {X:Cx}
def OZ (K:FG9) (ta:TA):TI:=λσ H R=>ta σ H λvs H1=>∃l,vs=[.ref l]/\(∃xs,bU K H1 l xs)/\R (Q0 K l) H1
theorem IY {a:Expr} {ta:TA} {p pos tpos:Pos} {elts:List Expr} {kk:Nat} (hg:Gl X "enumerate") (hm:X.mg "enumerate"=none) (ha:PA X [a] ta) (hs:starEach [a] X.env=[(false,eval a X.env)]:=by rfl) :
  PI X (.Tuple elts kk tpos) (.Call (.Name "enumerate" p) [a] [] pos) (OZ X.K ta):=by
 intro pins s σ H R I h;refine Call_ (jo I hg hm boot_enumerate (PyProof.Rows.callWith_type1 (fY (ha pos pins s σ H _ I h) λus s1 ⟨vs,H1,I1,r1,q1⟩=>?_) (by rw[hs];rfl) rfl));obtain ⟨l,e,⟨xs,qx⟩,q⟩:=q1;subst e;obtain ⟨u,rfl,ru⟩:=vals1 r1;cases ru;obtain ⟨us,rx,px,_⟩:=I1.list qx;refine call_enumerate_list px.isList λh' a1 a2 a3 hk=>wpAny_pyIter_enum a1 ?_
 have I2:Inv X pins σ H1 { s1 with heap:=h' }:=I1.kept (t':=s1.toks) hk;refine ⟨_,[s1.heap.objs.size+1,s1.heap.objs.size],_,_,H1,rfl,I2,JT (s1.heap.objs.size+1) s1.heap.objs.size l (Nat.succ_ne_self _),⟨⟨_,a1⟩,a2⟩,λb hb=>?_,q⟩
 have hb':s1.heap.objs.size<=b:=by
  simp only[aG,a8,or_false] at hb;rcases hb with rfl | rfl <;> first | exact mM _ | exact aj _
 exact I1.fpOk hb' (I1.hok.fresh hb')
end
theorem Ln {K:FG9} (h:ta σ H λvs H1=>∃l,vs=[.ref l]/\(∃xs,bU K H1 l xs)/\R (Q0 K l) H1):OZ K ta σ H R:=h
theorem Mn {K:FG9} {g:TG} {tb:TS} {D:Ends} (Pv:Nat->St->Hp->Prop) (h0:Pv 0 σ H) (hl:∀i σ H,i<=xs.length->Pv i σ H->bU K H l xs)
  (hs:∀i x σ H p,xs[i]?=some x->Pv i σ H->H p=none->g (.ref p) σ (upd H p (.tup [.int i,x])) λσ2 H2=>tb { D with nx:=Pv (i+1),ct:=Pv (i+1),bk:=D.nx } σ2 H2) (hd:∀σ H,Pv xs.length σ H->D.nx σ H) :
  ∃W:Nat->Nat->St->Hp->Prop,(∃m,W 0 m σ H)/\∀i m σ H,W i m σ H →
   ((Q0 K l).stop i H/\D.nx σ H)\/((Q0 K l).go i H/\∃N:St->Hp->Prop,(∀σ' H',N σ' H'->∃m',m' < m/\W (i+1) m' σ' H')/\∀x H',(Q0 K l).yld i H x H'->g x σ H' λσ2 H2=>tb { D with nx:=N,ct:=N,bk:=D.nx } σ2 H2):=by
 refine ⟨λi m σ H=>m=xs.length - i/\i<=xs.length/\Pv i σ H,⟨xs.length,by simp,bL _,h0⟩,?_⟩;rintro i m σ H ⟨rfl,hi,p⟩;have q1:=hl i σ H hi p;by_cases hlt:i < xs.length
 ·refine .inr ⟨⟨xs,xs[i],q1,by simp [hlt]⟩,Pv (i+1),λσ' H' p'=>⟨xs.length - (i+1),by lia,rfl,hlt,p'⟩,λx H' y=>?_⟩;obtain ⟨r,x',rfl,hr,rfl,e1⟩:=y;exact hs i x' σ _ r (e1 xs q1) p hr
 ·have e:i=xs.length:=by lia
  subst e;exact .inl ⟨⟨xs,q1,aj _⟩,hd σ H p⟩
section
variable {X:Cx}
theorem NQ (K:FG9) {e:Expr} {f:Str} {pos:Pos} {ta:TE} (he:PE X e ta) (hb:attributeBase e f X.env (eval e X.env)=eval e X.env) (hK:X.K=K:=by rfl):PE X (.Attribute e f pos) (Pt K ta f):=by subst hK;exact cY he hb
def Lq (K:FG9) (C:Addr):V->Hp->VK->Prop:=λx H Q=>∃t b,va K H x t/\PySem.W.kitOne K t (.ref C)=some b/\Q (.bl b) H
theorem Qp {a:Expr} {ta:TE} {pos:Pos} {c:Str} {C:Addr} {p p2:Pos} (hg:Gl X "isinstance") (hm:X.mg "isinstance"=none) (hgc:Gl X c) (hmc:X.mg c=some (.ref C)) (ha:PE X a ta)
  (hd:(c == ("__debug__":Str))=false:=by decide) (he:starEach [a,.Name c p2] X.env=[(false,eval a X.env),(false,eval (.Name c p2) X.env)]:=by rfl)
  (hpl:(backTo pos (starEach [.Name c p2] X.env)).any (·.1)=false:=by rfl) (he2:starEach [.Name c p2] X.env=[(false,eval (.Name c p2) X.env)]:=by rfl):PE X (.Call (.Name "isinstance" p) [a,.Name c p2] [] pos) (Rw (Lq X.K C) ta):=by
 intro pins s σ H Q I h;refine wpAny_Call_Name_kw (jo I hg hm PyProof.Rows.boot_isinstance ?_);have hA:PA X [a,.Name c p2] (lY ta (lY (tC (.ref C)) DP)):=ae ha (ae (mW hgc hmc rfl hd) ak he2) (by rw[he,he2])
 have hq:lY ta (lY (tC (.ref C)) DP) σ H (λvs H1=>∃x,vs=[x,.ref C]/\Lq X.K C x H1 Q):=by
  show ta σ H λx H1=>∃x',[x,V.ref C]=[x',V.ref C]/\Lq X.K C x' H1 Q
  have e:(λx H1=>∃x',[x,V.ref C]=[x',V.ref C]/\Lq X.K C x' H1 Q)=λx H1=>Lq X.K C x H1 Q:=by
   funext x H1;apply propext;constructor
   ·rintro ⟨x',e,q⟩;cases e;exact q
   ·intro q;exact ⟨x,rfl,q⟩
  rw[e];exact h
 refine PyProof.Rows.callWith_builtin1 (fY (hA pos pins s σ H _ I hq) λus s1 ⟨vs,H1,I1,r1,x,e,q1⟩=>?_) (by rw[he,he2]) hpl;subst e;obtain ⟨u,w',rfl,ru,rt⟩:=vals2 r1;cases rt;obtain ⟨t,bb,ty,ek,q⟩:=q1;exact yt I1 ru ty ek λtk=>⟨.bl bb,H1,I1.tok tk,rfl,q⟩
end
theorem P9 {K:FG9} (h:ta σ H λx H1=>∃a C dx fs v,x=.ref a/\H1 a=some (.ins C dx fs)/\KC K C/\ju K C f/\fs.lookup f=some v/\Q v H1):Pt K ta f σ H Q:=h
theorem Nn {K:FG9} (h:tv σ H λy H1=>ta σ H1 λx H2=>∃a C dx fs,x=.ref a/\H2 a=some (.ins C dx fs)/\KC K C/\ju K C f/\fs.length < 1000 /\
 D.nx σ (upd H2 a (.ins C dx (cD f y fs)))):RW K ta tv f D σ H:=h
theorem Nu (h:ta σ H λx H1=>∃a dx fs,x=.ref a/\H1 a=some (.ins C dx fs)/\fs.lookup m=none /\
 t σ H1 λvs H2=>sp (x :: vs) H2 Q E):OF C m sp [] E ta t σ H Q:=by
 have e:(λ(x:V) H1=>∃a dx fs,x=.ref a/\H1 a=some (.ins C dx fs)/\fs.lookup m=none/\t σ H1 λvs H2=>sp (x :: (vs++[])) H2 Q E)=λx H1=>∃a dx fs,x=.ref a/\H1 a=some (.ins C dx fs)/\fs.lookup m=none/\t σ H1 λvs H2=>sp (x :: vs) H2 Q E:=by
  funext x H1;simp only[qS]
 show ta σ H (λ(x:V) H1=>∃a dx fs,x=.ref a/\H1 a=some (.ins C dx fs)/\fs.lookup m=none/\t σ H1 λvs H2=>sp (x :: (vs++[])) H2 Q E)
 rw[e];exact h
theorem Nv (h:t σ H λvs H1=>∀x dx,H1 x=none->H1 dx=none->dx≠x →
 sp (.ref x :: vs) (upd (upd H1 dx (.own x)) x (.ins C dx [])) (λv H2=>v=.non/\Q (.ref x) H2) E):OG C sp [] E t σ H Q:=by
 have e:(λvs (H1:Hp)=>∀x dx,H1 x=none->H1 dx=none->dx≠x->sp (.ref x :: (vs++[])) (upd (upd H1 dx (.own x)) x (.ins C dx [])) (λv H2=>v=.non/\Q (.ref x) H2) E)=λvs H1=>∀x dx,H1 x=none->H1 dx=none->dx≠x->sp (.ref x :: vs) (upd (upd H1 dx (.own x)) x (.ins C dx [])) (λv H2=>v=.non/\Q (.ref x) H2) E:=by
  funext vs H1;simp only[qS]
 show t σ H (λvs (H1:Hp)=>∀x dx,H1 x=none->H1 dx=none->dx≠x->sp (.ref x :: (vs++[])) (upd (upd H1 dx (.own x)) x (.ins C dx [])) (λv H2=>v=.non/\Q (.ref x) H2) E)
 rw[e];exact h
def Fe (x:Addr) (H H':Hp):Prop:=∀b o,H b=some o->b≠x->H' b=some o
theorem Fe.upd:Fe x H (L2.upd H x o):=λb u h n=>by rw[bN n];exact h
def uu (H:Hp) (x:Addr):Prop:=∃C dx fs,H x=some (.ins C dx fs)
section
variable {K:FG9} {H H' H0:Hp} {q:Rat} {v:V} {x p:Addr} {qs:List Rat} {rows:LR9}
theorem cB.exc (h:cB K H q v) (e:Fe x H H') (hx:uu H x):cB K H' q v:=by
 obtain ⟨C,dx,fs,hx⟩:=hx;obtain ⟨r,er,s⟩:=h;refine ⟨r,er,?_⟩;rcases s with (h | ⟨o,h⟩) | h
 ·exact .inl (.inl (e _ _ h λz=>by rw[z,hx] at h;cases h))
 ·exact .inl (.inr ⟨o,e _ _ h λz=>by rw[z,hx] at h;cases h⟩)
 ·exact .inr h
theorem dI.exc (h:dI K H p qs) (e:Fe x H H') (hx:uu H x):dI K H' p qs:=by
 obtain ⟨xs,g,r⟩:=h;have hx':=hx;obtain ⟨C,dx,fs,hx⟩:=hx;exact ⟨xs,e _ _ g (λz=>by rw[z,hx] at g;cases g),Paired.imp' (λ_ _ z=>z.exc e hx') r⟩
theorem cI.exc (h:cI K H0 H qs v) (e:Fe x H H') (hx:uu H x):cI K H0 H' qs v:=by obtain ⟨q,a,b,c⟩:=h;exact ⟨q,a,b,c.exc e hx⟩
theorem bo.exc (h:bo K H0 H p rows) (e:Fe x H H') (hx:uu H x):bo K H0 H' p rows:=by
 obtain ⟨xs,g,r,n⟩:=h;have hx':=hx;obtain ⟨C,dx,fs,hx⟩:=hx;exact ⟨xs,e _ _ g (λz=>by rw[z,hx] at g;cases g),Paired.imp' (λ_ _ z=>z.exc e hx') r,n⟩
end
def kJ (a b c:Addr) (n i o:Nat):List (Str×V):=cD "outs" (.int o) (cD "look" (.ref c) (cD "ins" (.int i) (cD "put" (.ref b) (cD "states" (.int n) (cD "move" (.ref a) [])))))
section
variable {a b c:Addr} {n i o:Nat}
theorem KY:(kJ a b c n i o).lookup ("outs":Str)=some (.int o):=by
 unfold kJ;rw[bE,if_pos rfl]
theorem oj:(kJ a b c n i o).lookup ("look":Str)=some (.ref c):=by
 unfold kJ;rw[bE,if_neg (by decide +kernel),bE,if_pos rfl]
theorem MZ:(kJ a b c n i o).lookup ("ins":Str)=some (.int i):=by
 unfold kJ;rw[bE,if_neg (by decide +kernel),bE,if_neg (by decide +kernel),bE,if_pos rfl]
theorem oW:(kJ a b c n i o).lookup ("put":Str)=some (.ref b):=by
 unfold kJ;rw[bE,if_neg (by decide +kernel),bE,if_neg (by decide +kernel),bE,if_neg (by decide +kernel),bE,if_pos rfl]
theorem fk:(kJ a b c n i o).lookup ("states":Str)=some (.int n):=by
 unfold kJ;rw[bE,if_neg (by decide +kernel),bE,if_neg (by decide +kernel),bE,if_neg (by decide +kernel),bE,if_neg (by decide +kernel),bE,if_pos rfl]
theorem lZ:(kJ a b c n i o).lookup ("move":Str)=some (.ref a):=by
 unfold kJ;rw[bE,if_neg (by decide +kernel),bE,if_neg (by decide +kernel),bE,if_neg (by decide +kernel),bE,if_neg (by decide +kernel),bE,if_neg (by decide +kernel),bE,if_pos rfl]
theorem Pu {m:Str} (h1:¬m="outs") (h2:¬m="look") (h3:¬m="ins") (h4:¬m="put") (h5:¬m="states") (h6:¬m="move"):(kJ a b c n i o).lookup m=none:=by
 unfold kJ;rw[bE,if_neg h1,bE,if_neg h2,bE,if_neg h3,bE,if_neg h4,bE,if_neg h5,bE,if_neg h6];rfl
theorem Hu:(kJ a b c n i o).lookup ("turned":Str)=none:=Pu (by decide +kernel) (by decide +kernel) (by decide +kernel) (by decide +kernel) (by decide +kernel) (by decide +kernel)
end
theorem d6 {k:Str} {v:V}:∀{l:List (Str×V)},(cD k v l).length<=l.length+1
 | []=>aj _
 | (x,y) :: r=>by
  unfold cD
  split
  ·simp
  ·have:=d6 (k:=k) (v:=v) (l:=r);simp only[bD]
   lia
structure dr (mv pt lk:LR9):Prop where
 n8:mv.length<=8
 i4:pt.length<=4
 o4:lk.length<=4
 mw:∀xs∈mv,xs.length=mv.length
 pw:∀xs∈pt,xs.length=mv.length
 lw:∀xs∈lk,xs.length=mv.length
def uq (mv pt lk:LR9):Prop:=∃M V:Nat,0 < M/\M<=2^800/\V<=2^400/\GF M V mv/\GF M V pt/\GF M V lk
def iW (K:FG9) (H0 H:Hp) (C p:Addr) (mv pt lk:LR9):Prop:=∃dx a b c,H p=some (.ins C dx (kJ a b c mv.length pt.length lk.length))/\H0 a=none/\H0 b=none/\H0 c=none/\bo K H0 H a mv/\bo K H0 H b pt/\bo K H0 H c lk
section
variable {K:FG9} {H H' H0 H1:Hp} {C p b:Addr} {mv pt lk:LR9}
theorem iW.same (h:iW K H0 H C p mv pt lk) (e:aH H H'):iW K H0 H' C p mv pt lk:=by obtain ⟨dx,a,b,c,g,n1,n2,n3,g1,g2,g3⟩:=h;exact ⟨dx,a,b,c,e _ _ g,n1,n2,n3,g1.same e,g2.same e,g3.same e⟩
theorem iW.upto (h:iW K H0 H C p mv pt lk) (u:c5 b H H') (B:ip H b) (nb:H0 b≠none):iW K H0 H' C p mv pt lk:=by
 obtain ⟨dx,a,b',c,g,n1,n2,n3,g1,g2,g3⟩:=h;refine ⟨dx,a,b',c,u.other (λz=>by obtain ⟨_,_,_,_,_,e,_⟩:=B;rw[z,e] at g;cases g) g,n1,n2,n3,g1.upto u B (λz=>nb (by rw[<- z];exact n1)) nb,g2.upto u B (λz=>nb (by rw[<- z];exact n2)) nb,g3.upto u B (λz=>nb (by rw[<- z];exact n3)) nb⟩
theorem iW.weak (h:iW K H0 H C p mv pt lk) (e:aH H1 H0):iW K H1 H C p mv pt lk:=by obtain ⟨dx,a,b,c,g,n1,n2,n3,g1,g2,g3⟩:=h;exact ⟨dx,a,b,c,g,e.none n1,e.none n2,e.none n3,g1.weak e,g2.weak e,g3.weak e⟩
theorem uq.fits (h:uq mv pt lk) (hl:∀x∈l,(∃xs∈mv,x∈xs)\/(∃xs∈pt,x∈xs)\/(∃xs∈lk,x∈xs)\/x=0):Fits l:=by
 obtain ⟨M,V,h0,h1,h2,h3,h4,h5⟩:=h;refine ⟨M,V,h0,ai h1 (ao (by decide) (by decide)),ai h2 (ao (by decide) (by decide)),λx hx=>?_⟩;rcases hl x hx with ⟨xs,a,b⟩ | ⟨xs,a,b⟩ | ⟨xs,a,b⟩ | rfl
 ·exact h3 xs a x b
 ·exact h4 xs a x b
 ·exact h5 xs a x b
 ·exact Fr.zero
theorem uq.turn (h:uq mv pt lk):uq (bC mv mv.length) lk pt:=by
 obtain ⟨M,V,h0,h1,h2,h3,h4,h5⟩:=h;refine ⟨M,V,h0,h1,h2,λys hy y hy'=>?_,h5,h4⟩;obtain ⟨j,_,rfl⟩:=aw.mp hy;obtain ⟨xs,hx,rfl⟩:=aw.mp hy';by_cases hj:j < xs.length
 ·rw[aa,af hj];exact h3 xs hx _ (aE hj)
 ·rw[aa,aS (by lia)];exact Fr.zero
theorem dr.turn (h:dr mv pt lk):dr (bC mv mv.length) lk pt:=⟨by rw[cO];exact h.n8,h.o4,h.i4,λxs hx=>by rw[lO xs hx,cO],λxs hx=>by rw[cO];exact h.lw xs hx,λxs hx=>by rw[cO];exact h.pw xs hx⟩
end
def JU:Sp:=λvs H Q _=>∃i:Int,vs=[.int i]/\Q (.bl true) H
def JY (K:FG9):Sp:=λvs H Q _=>∃x n,vs=[x]/\GO K H x n/\xn n/\∀H',aH H H'->Q (.bl true) H'
inductive IA (vs:List V) (H:Hp) (Q:VK) (E9:XK):Prop
 | mk (p:Addr) (xs:List V) (a m:Int):vs=[.ref p,.int a,.int m]->H p=some (.lst xs)->(xs.length:Int)<=m->Q .non H->IA  vs H Q E9
inductive IP (K:FG9) (vs:List V) (H:Hp) (Q:VK) (E9:XK):Prop
 | mk (p:Addr) (H0:Hp) (rows:LR9) (w:Nat):vs=[.ref p,.int w]->bo K H0 H p rows->rows.length<=1000->w<=1000->((∀xs∈rows,xs.length=w/\∀x∈xs,xn (nm x)))->(∀r H',H r=none->aH H H'->bo K H H' r rows->Q (.ref r) H')->IP K vs H Q E9
def GS (rows:LR9):Prop:=∀xs∈rows,∀x∈xs,xn (nm x)
inductive IK (K:FG9) (C:Addr) (vs:List V) (H:Hp) (Q:VK) (E9:XK):Prop
 | mk (x dx p q r:Addr) (Hb H0 H1 H2:Hp) (mv pt lk:LR9):vs=[.ref x,.ref p,.ref q,.ref r]->Hb x=none->Hb dx=none->dx≠x->H=upd (upd Hb dx (.own x)) x (.ins C dx [])->bo K H0 Hb p mv->bo K H1 Hb q pt->bo K H2 Hb r lk->dr mv pt lk->GS mv->GS pt->GS lk->(∀H',aH Hb H'->iW K Hb H' C x mv pt lk->Q .non H')->IK K C vs H Q E9
def gV (mv pt:LR9) (st pu:List Rat):List Rat:=List.zipWith (λline col=>cS (line++col) (st++pu)) mv (bC pt mv.length)
inductive Ah (K:FG9) (C:Addr) (vs:List V) (H:Hp) (Q:VK) (E9:XK):Prop
 | mk (x:Addr) (H0:Hp) (mv pt lk:LR9):vs=[.ref x]->iW K H0 H C x mv pt lk->dr mv pt lk->uq mv pt lk->(∀r H',H r=none->aH H H'->iW K H H' C r (bC mv mv.length) lk pt->Q (.ref r) H')->Ah K C vs H Q E9
theorem uq.ok (h:uq mv pt lk):GS mv/\GS pt/\GS lk :=
 ⟨λxs hx x hx'=>(h.fits (l:=xs) λy hy=>.inl ⟨xs,hx,hy⟩).ok hx',λxs hx x hx'=>(h.fits (l:=xs) λy hy=>.inr (.inl ⟨xs,hx,hy⟩)).ok hx',λxs hx x hx'=>(h.fits (l:=xs) λy hy=>.inr (.inr (.inl ⟨xs,hx,hy⟩))).ok hx'⟩
def fw (K:FG9) (A:Addr->Prop) (H:Hp) (n:Nat) (C:Rat->Prop) (x:V):Prop:=∃q qs,x=V.ref q/\A q/\dI K H q qs/\qs.length=n/\∀y∈qs,C y
section
variable {K:FG9} {A A':Addr->Prop} {H H' H0:Hp} {n:Nat} {C C':Rat->Prop} {x v:V} {q b l p:Addr} {xs zs:List V} {y:Rat} {o:HO}
theorem fw.same (h:fw K A H n C x) (e:aH H H'):fw K A H' n C x:=by obtain ⟨q,qs,a,c,r,z⟩:=h;exact ⟨q,qs,a,c,r.same e,z⟩
theorem fw.upto (h:fw K A H n C x) (u:c5 b H H') (B:ip H b) (nb:¬A b):fw K A H' n C x:=by obtain ⟨q,qs,a,c,r,z⟩:=h;exact ⟨q,qs,a,c,r.upto u B (λe=>nb (by rw[<- e];exact c)),z⟩
theorem fw.other (h:fw K A H n C x) (hl:H l=some (.lst zs)) (nl:¬A l):fw K A (upd H l o) n C x:=by obtain ⟨q,qs,a,c,r,z⟩:=h;exact ⟨q,qs,a,c,r.updL hl (λe=>nl (by rw[<- e];exact c)),z⟩
theorem fw.weak (h:fw K A H n C x) (w:∀q,A q->A' q) (wc:∀y,C y->C' y):fw K A' H n C' x:=by obtain ⟨q,qs,a,c,r,l,z⟩:=h;exact ⟨q,qs,a,w q c,r,l,λy hy=>wc y (z y hy)⟩
theorem AL {α β:Type} {F:α->β->Prop} {a:α} {b:β} (h:F a b):∀{l1:List α} {l2:List β} (j:Nat),Paired F l1 l2->Paired F (l1.set j a) (l2.set j b)
 | _,_,_,.nil=>.nil
 | _,_,0,.cons _ t=>.cons h t
 | _,_,j+1,.cons r t=>.cons r (AL h j t)
theorem fw.put (h:fw K A H n C x) (hq:H q=some (.lst zs)) (hv:cB K H y v) (hc:C y) (j:Nat):fw K A (upd H q (.lst (zs.set j v))) n C x:=by
 obtain ⟨q1,qs,rfl,a,⟨zs1,g1,pr⟩,l1,c1⟩:=h;by_cases e:q1=q
 ·subst e;rw[hq] at g1;cases g1;refine ⟨q1,qs.set j y,rfl,a,⟨_,aM,AL (hv.updL hq) j (Paired.imp' (λ_ _ z=>z.updL hq) pr)⟩,by rw[ee];exact l1,λz hz=>?_⟩;rcases cH hz with hz | rfl
  ·exact c1 z hz
  ·exact hc
 ·exact ⟨q1,qs,rfl,a,⟨zs1,by rw[bN e];exact g1,Paired.imp' (λ_ _ z=>z.updL hq) pr⟩,l1,c1⟩
theorem fw.at (h:fw K A H n C x):∃q zs qs,x=V.ref q/\A q/\H q=some (.lst zs)/\zs.length=n/\Paired (cB K H) qs zs/\qs.length=n/\∀y∈qs,C y:=by obtain ⟨q,qs,a,c,⟨zs,g,pr⟩,l,z⟩:=h;exact ⟨q,zs,qs,a,c,g,by rw[<- pr.length];exact l,pr,l,z⟩
end
theorem sJ {i:Int} (h:i.natAbs<=W) (hW:1<=W):Dr W (i:Rat):=⟨h,hW⟩
def SS (K:FG9) (A:Addr->Prop) (H:Hp) (n:Nat) (C:Rat->Prop) (p:Addr) (m:Nat):Prop:=∃us,H p=some (.lst us)/\us.length=m/\¬A p/\∀x∈us,fw K A H n C x
structure GQ (A:Addr->Prop) (m p l b q0:Addr):Prop where
 am:¬A m
 ap:¬A p
 al:¬A l
 ab:¬A b
 aq:¬A q0
 mb:m≠b
 pb:p≠b
 lb:l≠b
 mp:m≠p
 ml:m≠l
 mq:m≠q0
theorem Jp {M:Nat} {z:Int} (h:z.natAbs<=2):Fr 1 2 (z:Rat):=Fr.int h
theorem ES {z:Int} (hz:z.natAbs<=2) (ha:Fr M W a) (hc:Fr M W c):Fr M (3*W) (a+(z:Rat)*c):=by
 have h:=(Jp (M:=M) hz).mul hc;rw[xp] at h;exact (ha.add h).mono (by lia)
theorem DQ {z:Int} (h:z.natAbs<=1000):mQ (z:Rat):=Ie (M:=1) (V:=1000) (by decide) (bI) (ai (show 1000<=2^10 by decide) (ao (by decide) (by decide))) (Fr.int h)
theorem Ae {z:Int} (hz:z.natAbs<=2) (hc:Fr M W c) (h0:0 < M) (h1:M<=2^800) (hW:W<=2^140):mQ ((z:Rat)*c):=by
 have h:=(Jp (M:=M) hz).mul hc;rw[xp] at h;refine Ie h0 (ai h1 (ao (by decide) (by decide))) (ai (aY 2 hW) ?_) h;rw[show 2*2^140=2^141 by rw[gI,cw]];exact ao (by decide) (by decide)
def ik (A:Addr->Prop) (b m:Addr) (H H':Hp):Prop:=∀c u,H c=some u->c≠b->¬A c->c≠m->H' c=some u
theorem ik.same (h:ik A b m H H1) (s:aH H1 H2):ik A b m H H2:=λc u e n1 n2 n3=>s _ _ (h c u e n1 n2 n3)
theorem ik.upto (h:ik A b m H H1) (s:c5 b H1 H2):ik A b m H H2:=λc u e n1 n2 n3=>s.1 _ _ (h c u e n1 n2 n3) n1
theorem ik.upd (h:ik A b m H H1) (hq:A q\/q=m):ik A b m H (L2.upd H1 q o):=λc u e n1 n2 n3=>by
 rw[bN]
 ·exact h c u e n1 n2 n3
 ·rintro rfl;rcases hq with hq | hq
  ·exact n2 hq
  ·exact n3 hq
theorem ik.new (h:ik A b m H H1) (hA:∀q,H q=none->A q) (B:ip H1 b) (hm:H1 m≠none) (hr:H1 r=none):A r:=by
 by_cases z:A r
 ·exact z
 ·cases e:H r with
  | none=>exact hA r e
  | some u =>
   have:=h r u e (λy=>B.at (by rw[<- y];exact hr)) z (λy=>hm (by rw[<- y];exact hr));rw[hr] at this;cases this
structure JL (K:FG9) (A:Addr->Prop) (n:Nat) (C:Rat->Prop) (r p b q0:Addr) (us:List V) (H0 H:Hp):Prop where
 gr:H r=some (.lst us)
 ru:∀x∈us,fw K A H n C x
 rp:fw K A H n C (.ref p)
 bag:ip H b
 inn:Inner H b q0
 up:c5 b H0 H
section
variable {K:FG9} {A:Addr->Prop} {n:Nat} {C:Rat->Prop} {r p b q0:Addr} {us:List V} {H0 H H':Hp} {y:Rat} {v:V}
theorem JL.same (h:JL K A n C r p b q0 us H0 H) (e:aH H H'):JL K A n C r p b q0 us H0 H':=⟨e _ _ h.gr,λx hx=>(h.ru x hx).same e,h.rp.same e,h.bag.same e,(e.upto (p:=b)).2 _ h.inn,h.up.same e⟩
theorem JL.upto (h:JL K A n C r p b q0 us H0 H) (u:c5 b H H') (B:ip H' b) (nb:¬A b) (rb:r≠b):JL K A n C r p b q0 us H0 H':=⟨u.other rb h.gr,λx hx=>(h.ru x hx).upto u h.bag nb,h.rp.upto u h.bag nb,B,u.2 _ h.inn,h.up.trans u⟩
theorem JL.put (h:JL K A n C r p b q0 us H0 H) (ap:A p) (nr:¬A r) (nb:¬A b) (nq:¬A q0) (hp:H0 p=none) (hv:cB K H y v) (hc:C y) (j:Nat):∃zs,H p=some (.lst zs)/\zs.length=n/\JL K A n C r p b q0 us H0 (upd H p (.lst (zs.set j v))):=by
 obtain ⟨q,zs,qs,e,a,g,l,_⟩:=h.rp.at;cases e;have ne:∀{z},¬A z->z≠p:=λh e=>h (by rw[e];exact ap)
 exact ⟨zs,g,l,by rw[bN (ne nr)];exact h.gr,λx hx=>(h.ru x hx).put g hv hc j,h.rp.put g hv hc j,h.bag.upd h.inn (ne nb).symm (ne nq).symm,h.inn.upd (ne nb).symm,h.up.after hp⟩
end
theorem Az {K:FG9} (h:∀x∈us,fw K A H n C x):∃rows:LR9,Paired (λqs x=>∃q,x=V.ref q/\A q/\dI K H q qs) rows us/\rows.length=us.length/\∀qs∈rows,qs.length=n/\∀y∈qs,C y:=by
 induction us with
 | nil=>exact ⟨[],.nil,rfl,λ_ z=>nomatch z⟩
 | cons u us ih =>
  obtain ⟨rows,pr,l,hr⟩:=ih λx hx=>h x (.tail _ hx)
  obtain ⟨q,qs,e,a,r,l1,c⟩:=h u (.head _);refine ⟨qs :: rows,.cons ⟨q,e,a,r⟩ pr,by simp [l],λzs hz=>?_⟩;rcases aG.mp hz with rfl | hz
  ·exact ⟨l1,c⟩
  ·exact hr zs hz
theorem HG {K:FG9} {rows:LR9} (pr:Paired (λqs x=>∃q,x=V.ref q/\A q/\dI K H q qs) rows us) (h:∀qs∈rows,qs.length=n/\∀y∈qs,C y):∀x∈us,fw K A H n C x:=λx hx=>by
 obtain ⟨qs,hq,q,e,a,r⟩:=dd pr hx;exact ⟨q,qs,e,a,r,(h qs hq).1,(h qs hq).2⟩
theorem CW {n:Nat}:∀{rows:LR9},(∀xs∈rows,xs.length=n)->rows.flatten.length=rows.length*n
 | [],_=>by simp
 | xs :: rows,h=>by
  rw[gJ,av,h xs (.head _),CW λys hy=>h ys (.tail _ hy),bD,gH,nk]
theorem Nj {rows:LR9} (h:∀qs∈rows,qs.length=n/\∀y∈qs,Dr (2^c) y):∃M:Nat,0 < M/\M<=2^(c*(rows.length*n))/\∀qs∈rows,∀y∈qs,Fr M (2^c) y:=by
 have fl:rows.flatten.length=rows.length*n:=CW λys hy=>(h ys hy).1
 have hm:∀a∈rows.flatten.map (·.den),0 < a/\a<=2^c:=λa ha=>by
  obtain ⟨y,hy,rfl⟩:=aw.mp ha;obtain ⟨qs,hq,hy⟩:=zI.mp hy;exact ⟨y.den_pos,((h qs hq).2 y hy).2⟩
 refine ⟨vC (rows.flatten.map (·.den)),xZ λa ha=>(hm a ha).1,?_,λqs hq y hy=>?_⟩
 ·have:=AE (k:=c) (l:=rows.flatten.map (·.den)) λa ha=>(hm a ha).2
  rwa [ag,fl] at this
 ·exact (Fr.own y ((h qs hq).2 y hy).1).dvd (ya (aw.mpr ⟨y,zI.mpr ⟨qs,hq,hy⟩,rfl⟩))
theorem jP {K:FG9} (h:SS K A H n C p m) (w:∀q,A q->H0 q=none):∃rows,bo K H0 H p rows/\rows.length=m/\∀qs∈rows,qs.length=n/\∀y∈qs,C y:=by
 obtain ⟨us,g,l,a,r⟩:=h;obtain ⟨rows,pr,lr,hr⟩:=Az r;refine ⟨rows,⟨us,g,Paired.imp' (λ_ _ ⟨q,e,aq,rq⟩=>⟨q,e,w q aq,rq⟩) pr,λhm=>?_⟩,by rw[lr,l],hr⟩;obtain ⟨q,_,e,aq,_⟩:=r _ hm;cases e;exact a aq
theorem ik.trans (h:ik A b m H H1) (h':ik A b m H1 H2):ik A b m H H2:=λc u e n1 n2 n3=>h' c u (h c u e n1 n2 n3) n1 n2 n3
theorem Lh {K:FG9} {rows:LR9} (pr:Paired (cI K H0 H) rows us) (h:∀qs∈rows,qs.length=n/\∀y∈qs,C y) (w:∀q,V.ref q∈us->H0 q=none->H q≠none->A q):∀x∈us,fw K A H n C x:=λx hx=>by
 obtain ⟨qs,hq,q,e,a,r⟩:=dd pr hx;subst e;exact ⟨q,qs,rfl,w q hx a (by obtain ⟨_,g,_⟩:=r;rw[g];simp),r,(h qs hq).1,(h qs hq).2⟩
def JW:Sp:=λvs H Q _=>∃b,vs=[.ref b]/\ip H b/\∀r (n i o w:Nat) H',H' r=some (.tup [.int n,.int i,.int o,.int w])->n<=5->i<=4->o<=4->(w=4\/w=9\/(w=1000000/\n<=2))->(n=5->i<=2/\o<=2)->ip H' b->c5 b H H'->Q (.ref r) H'
def eo (K:FG9) (H0 H:Hp) (r:Addr) (mv pt lk:LR9):Prop:=∃m p l,H r=some (.tup [.ref m,.ref p,.ref l])/\H0 m=none/\H0 p=none/\H0 l=none/\bo K H0 H m mv/\bo K H0 H p pt/\bo K H0 H l lk
section
variable {K:FG9} {H H' H0 H1:Hp} {r b:Addr} {mv pt lk:LR9}
theorem eo.same (h:eo K H0 H r mv pt lk) (e:aH H H'):eo K H0 H' r mv pt lk:=by obtain ⟨m,p,l,g,n1,n2,n3,g1,g2,g3⟩:=h;exact ⟨m,p,l,e _ _ g,n1,n2,n3,g1.same e,g2.same e,g3.same e⟩
theorem eo.upto (h:eo K H0 H r mv pt lk) (u:c5 b H H') (B:ip H b) (nb:H0 b≠none):eo K H0 H' r mv pt lk:=by
 obtain ⟨m,p,l,g,n1,n2,n3,g1,g2,g3⟩:=h;exact ⟨m,p,l,u.tup B g,n1,n2,n3,g1.upto u B (λz=>nb (by rw[<- z];exact n1)) nb,g2.upto u B (λz=>nb (by rw[<- z];exact n2)) nb,g3.upto u B (λz=>nb (by rw[<- z];exact n3)) nb⟩
theorem eo.weak (h:eo K H0 H r mv pt lk) (e:∀q,H0 q=none->H1 q=none):eo K H1 H r mv pt lk:=by
 obtain ⟨m,p,l,g,n1,n2,n3,⟨x1,y1,z1,w1⟩,⟨x2,y2,z2,w2⟩,⟨x3,y3,z3,w3⟩⟩:=h;exact ⟨m,p,l,g,e _ n1,e _ n2,e _ n3,⟨x1,y1,Paired.imp' (λ_ _ ⟨q,a,b,c⟩=>⟨q,a,e _ b,c⟩) z1,w1⟩,⟨x2,y2,Paired.imp' (λ_ _ ⟨q,a,b,c⟩=>⟨q,a,e _ b,c⟩) z2,w2⟩,⟨x3,y3,Paired.imp' (λ_ _ ⟨q,a,b,c⟩=>⟨q,a,e _ b,c⟩) z3,w3⟩⟩
end
inductive Ai (K:FG9) (C:Addr) (vs:List V) (H:Hp) (Q:VK) (E9:XK):Prop
 | mk (r:Addr) (H0:Hp) (mv pt lk:LR9):vs=[.ref r]->eo K H0 H r mv pt lk->dr mv pt lk->uq mv pt lk->(∀x H',H x=none->aH H H'->iW K H H' C x mv pt lk->Q (.ref x) H')->Ai K C vs H Q E9
def nextK (mv pt:LR9) (st pu:List Rat) (k:Nat):List Rat:=List.zipWith (λline col=>cS (line++col.take k) (st++pu.take k)) mv (bC pt mv.length)
theorem iO {st pu:List Rat}:(nextK mv pt st pu k).length=mv.length:=by unfold nextK;rw[cJ,cO];lia
theorem tj {st pu:List Rat} (h1:pt.length<=k) (h2:pu.length<=k):nextK mv pt st pu k=gV mv pt st pu:=by
 unfold nextK gV;apply jw;intro i;rw[cG,cG];cases e1:mv[i]? with
 | none=>rfl
 | some line =>
  cases e2:(bC pt mv.length)[i]? with
  | none=>rfl
  | some col =>
   have:=lO col (ar e2);show some _=some _
   rw[aL (by lia),aL h2]
theorem DL (h:i < w):(bC rows w)[i]?=some (rows.map λxs=>xs.getD i 0):=by
 unfold bC;rw[aD,cR h];rfl
theorem HR {st pu:List Rat}:nextK mv pt st pu 0=mv.map λxs=>cS xs st:=by
 unfold nextK;apply jw;intro i;rw[cG,aD];by_cases hi:i < mv.length
 ·rw[DL hi,af hi];simp
 ·rw[aS (by lia)];rfl
theorem AW {st pu:List Rat} (hi:i < mv.length):(nextK mv pt st pu k).getD i 0=cS (mv[i]++(pt.map λxs=>xs.getD i 0).take k) (st++pu.take k):=by
 rw[aa];unfold nextK;rw[cG,af hi,DL hi];rfl
theorem sL (h:as.length=xs.length):cS (as++bs) (xs++ys)=cS as xs+cS bs ys:=by
 unfold cS;rw[List.zipWith_append h,List.sum_append]
theorem HS {st pu:List Rat} (hm:∀xs∈mv,xs.length=st.length) (h1:k < pt.length) (h2:k < pu.length) (hw:(pt[k]).length=mv.length) :
  List.zipWith (λx y=>x+y) (nextK mv pt st pu k) ((pt[k]).map λy=>pu[k]*y)=nextK mv pt st pu (k+1):=by
 have l1:((pt[k]).map λy=>pu[k]*y).length=mv.length:=by rw[ag,hw]
 rw[Cn (by rw[l1,iO])];apply jw;intro i;rw[aD,iO];by_cases hi:i < mv.length
 ·have e0:(nextK mv pt st pu (k+1))[i]?=some ((nextK mv pt st pu (k+1)).getD i 0):=by
   rw[aa,af (by rw[iO];exact hi)];rfl
  rw[cR hi,e0,AW hi];have ll:=hm mv[i] (aE hi);have ec:(pt.map λxs=>xs.getD i 0)[k]?=some ((pt[k]).getD i 0):=by rw[aD,af h1];rfl
  have ep:pu[k]?=some pu[k]:=af h2
  have e3:((pt[k]).map λy=>pu[k]*y).getD i 0=pu[k]*(pt[k]).getD i 0:=by
   rw[getD_map (by rw[hw];exact hi),aa,af (by rw[hw];exact hi)];rfl
  show some ((nextK mv pt st pu k).getD i 0+((pt[k]).map λy=>pu[k]*y).getD i 0)=some _
  rw[AW hi,e3,take_snoc ec,take_snoc ep,sL ll,sL ll,sL (by rw[aR,aR,ag];lia)];have:cS [(pt[k]).getD i 0] [pu[k]]=(pt[k]).getD i 0*pu[k]:=by simp [cS,iD]
  rw[this];congr 1;grind
 ·rw[aS (by simpa using hi),aS (by rw[iO];lia)];rfl
theorem LW {K:FG9}:PySem.W.kitOne K (.ref C) (.ref C)=some true:=by
 unfold PySem.W.kitOne;rw[if_pos (by simp)]
theorem yn {st pu:List Rat}:(gV mv pt st pu).length=mv.length:=by unfold gV;rw[cJ,cO];lia
def lE (k j:Nat) (l:List Rat):Prop:=∃M V:Nat,0 < M/\M<=2^k/\V<=2^j/\∀x∈l,Fr M V x
section
variable {k j k' j':Nat} {l xs ys:List Rat} {x y:Rat}
theorem lE.szn (h:lE k j l) (hx:x∈l) (hk:k+j<=3950:=by decide):mQ x:=by
 obtain ⟨M,V,h0,h1,h2,h3⟩:=h;obtain ⟨a,b⟩:=(h3 x hx).sz h0 h1 h2;exact ⟨a.mono (by lia),b.mono (by lia)⟩
theorem lE.rowM (h:lE k j l) (hk:k+j<=4200:=by decide):∃M,Il M (l.map nm):=by
 obtain ⟨M,V,h0,h1,h2,h3⟩:=h;refine ⟨M,by lia,?_,λn hn=>?_⟩
 ·show ((M:Nat):Int).natAbs < 2^4400
  rw[c7];exact bB h1 (eS (by decide) (by lia))
 ·obtain ⟨x,hx,rfl⟩:=aw.mp hn;obtain ⟨a,_⟩:=(h3 x hx).sz h0 h1 h2;exact ⟨gU x,(h3 x hx).den,a.mono (by lia)⟩
theorem lE.one (h:lE k j l) (hx:x∈l):lE k j [x]:=by
 obtain ⟨M,V,h0,h1,h2,h3⟩:=h;exact ⟨M,V,h0,h1,h2,λy hy=>by rw[cb.mp hy];exact h3 x hx⟩
theorem Mv (h:lE k j xs) (h':lE k' j' ys) (hl:xs.length<=1000) (i:Nat) (hk:(k+k')+(j+j')<=3930:=by decide):mQ (cS (xs.take i) (ys.take i)):=by
 obtain ⟨M,V,h0,h1,h2,h3⟩:=h;obtain ⟨N,W,k0,k1,k2,k3⟩:=h'
 have e:1000*(V*W)<=2^(10+(j+j')):=by
  rw[bg 2 10];exact aJ (by decide) (ai (aJ h2 k2) (by rw[<- bg];exact aj _))
 obtain ⟨a,b⟩:=((Fr.dot (λx hx=>h3 x (bG hx)) (λy hy=>k3 y (bG hy))).mono (ay _ (show (xs.take i).length<=1000 by rw[aR];lia))).sz (bQ h0 k0) (ai (aJ h1 k1) (by rw[<- bg];exact aj _)) e;exact ⟨a.mono (by lia),b.mono (by lia)⟩
theorem LJ (hx:lE k j [x]) (hy:lE k' j' [y]) (hk:(k+k')+(j+j')<=3930:=by decide):mQ (x*y):=by
 obtain ⟨M,V,h0,h1,h2,h3⟩:=hx;obtain ⟨N,W,k0,k1,k2,k3⟩:=hy;obtain ⟨a,b⟩:=((h3 x (.head _)).mul (k3 y (.head _))).sz (bQ h0 k0) (ai (aJ h1 k1) (by rw[<- bg];exact aj _)) (ai (aJ h2 k2) (by rw[<- bg];exact aj _));exact ⟨a.mono (by lia),b.mono (by lia)⟩
def qQ (xs ys:List Rat):Prop:=∃k j k' j':Nat,lE k j xs/\lE k' j' ys/\(k+k')+(j+j')<=3930
end
def JJ (mv pt lk:LR9):Prop:=∃M V:Nat,0 < M/\M<=2^400/\V<=2^120/\GF M V mv/\GF M V pt/\GF M V lk
section
variable {mv pt lk:LR9}
theorem JJ.sf (h:JJ mv pt lk):uq mv pt lk:=by obtain ⟨M,V,a,b,c,d⟩:=h;exact ⟨M,V,a,ai b (ao (by decide) (by decide)),ai c (ao (by decide) (by decide)),d⟩
end
inductive DS (K:FG9) (vs:List V) (H:Hp) (Q:VK) (E9:XK):Prop
 | mk (p q:Addr) (xs ys:List Rat):vs=[.ref p,.ref q]->dI K H p xs->dI K H q ys->ys.length=xs.length->xs.length<=1000->qQ xs ys->(∀r H',aH H H'->cB K H' (cS xs ys) (.ref r)->Q (.ref r) H')->DS K vs H Q E9
inductive DR (K:FG9) (vs:List V) (H:Hp) (Q:VK) (E9:XK):Prop
 | mk (p q:Addr) (H0:Hp) (rows:LR9) (ys:List Rat):vs=[.ref p,.ref q]->bo K H0 H p rows->dI K H q ys->rows.length<=1000->ys.length<=1000->((∀xs∈rows,xs.length=ys.length/\qQ xs ys))->(∀r H',H r=none->aH H H'->dI K H' r (rows.map λxs=>cS xs ys)->Q (.ref r) H')->DR K vs H Q E9
def mR (mv pt:LR9) (st:List Rat) (pus:LR9) (k:Nat):List Rat:=(pus.take k).foldl (gV mv pt) st
section
variable {mv pt lk pus:LR9} {st:List Rat} {k:Nat}
theorem qX:mR mv pt st pus 0=st:=rfl
theorem ke (h:pus[k]?=some pu):mR mv pt st pus (k+1)=gV mv pt (mR mv pt st pus k) pu:=by
 unfold mR;rw[take_snoc h,List.foldl_append];rfl
theorem kM (h:st.length=mv.length):∀{k:Nat},k<=pus.length->(mR mv pt st pus k).length=mv.length
 | 0,_=>h
 | k+1,hk=>by rw[ke (af (show k < pus.length by lia)),yn]
theorem zW (h:GF M W rows):GF M W (bC rows w):=λys hy y hy'=>by
 obtain ⟨j,_,rfl⟩:=aw.mp hy;obtain ⟨xs,hx,rfl⟩:=aw.mp hy';rw[aa];cases e:xs[j]? with
 | none=>exact Fr.zero
 | some z=>exact h xs hx z (ar e)
end
theorem Kr {l:List Rat} (h:∀x∈l,Dr (2^c) x) (hc:c<=20):∃B:Nat,0 < B/\B<=2^(c*l.length+2)/\∀x∈l,Fr B (2^22) x:=by
 obtain ⟨M,h0,h1,h2⟩:=N6 (c:=c) (n:=l.length) (i:=0) (rows:=[]) QI rfl h hc;refine ⟨M,h0,?_,h2 l (by simp)⟩;rw[Nat.zero_add,xp] at h1;exact h1
theorem Gn {i:Nat}:∀{pus:LR9},(∀xs∈pus,xs.length=i)->pus.flatten.length=pus.length*i
 | [],_=>by simp
 | x :: r,h=>by
  rw[gJ,av,h x (.head _),Gn (λxs hx=>h xs (.tail _ hx)),bD,gH]
  lia
theorem RS {i:Int} (h:i=0\/i=1):Fr 1 1 (i:Rat):=Fr.int (by rcases h with rfl | rfl <;> decide)
theorem tH {α β:Type} {F:α->β->Prop}:∀{l1:List α} {l2:List β} (_:Paired F l1 l2) (k:Nat),Paired F (l1.drop k) (l2.drop k)
 | _,_,h,0=>h
 | _,_,.nil,_+1=>.nil
 | _,_,.cons _ r,k+1=>tH r k
end L2
namespace L2
abbrev iU:=Nat->Rat
def BQ (F:List iU->Rat) (r:Nat):List iU->List iU->Rat->Rat
 | _,[],_=>0
 | pre,v :: post,s=>s*v r*F (pre++post)+BQ F r (pre++[v]) post (-s)
def qR:List Nat->List iU->Rat
 | [],[]=>1
 | [],_ :: _=>0
 | r :: rs,vs=>BQ (λws=>qR rs ws) r [] vs 1
theorem EY:qR [] (a++x :: b)=0:=by
 cases a <;> rfl
theorem EH {F:List iU->Rat} {r:Nat} {f g h:iU} {x y:Rat} (hF:∀a b,F (a++h :: b)=x*F (a++f :: b)+y*F (a++g :: b)):∀(b p q:List iU) (s:Rat),BQ F r (p++h :: q) b s=x*BQ F r (p++f :: q) b s+y*BQ F r (p++g :: q) b s
 | [],p,q,s=>by simp only[BQ,cL,iD]
 | v :: b,p,q,s=>by
  have i1:=hF p (q++b);have i2:=EH (r:=r) hF b p (q++[v]) (-s);simp only[BQ,cz,eJ] at i1 i2 ⊢;rw[i1,i2];grind
theorem Jh {F:List iU->Rat} {r:Nat} {f g h:iU} {x y:Rat} (hF:∀a b,F (a++h :: b)=x*F (a++f :: b)+y*F (a++g :: b)) (hr:h r=x*f r+y*g r):∀(a pre b:List iU) (s:Rat),BQ F r pre (a++h :: b) s=x*BQ F r pre (a++f :: b) s+y*BQ F r pre (a++g :: b) s
 | [],pre,b,s=>by
  have i2:=EH (r:=r) hF b pre [] (-s);simp only[BQ,cT] at i2 ⊢;rw[i2,hr];grind
 | v :: a,pre,b,s=>by
  have i1:=hF (pre++a) b;have i2:=Jh hF hr a (pre++[v]) b (-s);simp only[BQ,cz,eJ] at i1 i2 ⊢;rw[i1,i2];grind
theorem uY {f g h:iU} {x y:Rat}:∀{rs:List Nat},(∀r∈rs,h r=x*f r+y*g r)->∀a b,qR rs (a++h :: b)=x*qR rs (a++f :: b)+y*qR rs (a++g :: b)
 | [],_,a,b=>by rw[EY,EY,EY];grind
 | r :: rs,hr,a,b=>Jh (λa b=>uY (λr' h'=>hr r' (.tail _ h')) a b) (hr r (.head _)) a [] b 1
theorem EX (hr:∀r∈rs,h r=0) (a b:List iU):qR rs (a++h :: b)=0:=by
 rw[uY (f:=h) (g:=h) (x:=0) (y:=0) (λr h'=>by rw[hr r h'];grind) a b];grind
theorem Ji {F:List iU->Rat} {r:Nat} {x:iU} (hF:∀a b,F (a++x :: x :: b)=0):∀(b p q:List iU) (s:Rat),BQ F r (p++x :: x :: q) b s=0
 | [],p,q,s=>rfl
 | v :: b,p,q,s=>by
  have i1:=hF p (q++b);have i2:=Ji (r:=r) hF b p (q++[v]) (-s);simp only[BQ,cz,eJ] at i1 i2 ⊢;rw[i1,i2];grind
theorem Jj {F:List iU->Rat} {r:Nat} {x:iU} (hF:∀a b,F (a++x :: x :: b)=0):∀(a pre b:List iU) (s:Rat),BQ F r pre (a++x :: x :: b) s=0
 | [],pre,b,s=>by
  have i2:=Ji (r:=r) hF b pre [] (- -s);simp only[BQ,cT,cz,eJ] at i2 ⊢;rw[i2];grind
 | v :: a,pre,b,s=>by
  have i1:=hF (pre++a) b;have i2:=Jj (r:=r) hF a (pre++[v]) b (-s);simp only[BQ,cz,eJ] at i1 i2 ⊢;rw[i1,i2];grind
theorem Bf {x:iU}:∀{rs:List Nat} (a b:List iU),qR rs (a++x :: x :: b)=0
 | [],a,b=>EY
 | r :: rs,a,b=>Jj (λa b=>Bf a b) a [] b 1
theorem Oc (a b:List iU):qR rs (a++x :: y :: b)=- qR rs (a++y :: x :: b):=by
 have hr:∀r∈rs,(λr=>1*x r+1*y r) r=1*x r+1*y r:=λ_ _=>rfl
 have h0:=Bf (x:=λr=>1*x r+1*y r) (rs:=rs) a b;have h1:=uY hr a ((λr=>1*x r+1*y r) :: b);have h2:=uY hr (a++[x]) b;have h3:=uY hr (a++[y]) b;have h4:=Bf (x:=x) (rs:=rs) a b;have h5:=Bf (x:=y) (rs:=rs) a b;simp only[cz,eJ,cT] at h0 h1 h2 h3 h4 h5;rw[h1,h2,h3,h4,h5] at h0;grind
theorem EZ {x:iU} {rs:List Nat}:∀(b a c:List iU),qR rs (a++x :: (b++x :: c))=0
 | [],a,c=>Bf a c
 | y :: b,a,c=>by
  have:=EZ (x:=x) (rs:=rs) b (a++[y]) c;simp only[cz,eJ,cT] at this;rw[eJ,Oc,this];rfl
def be:Nat->(Nat->Rat)->Rat
 | 0,_=>0
 | k+1,f=>be k f+f k
theorem aA {f g:Nat->Rat}:∀{k:Nat},(∀j,j < k->f j=g j)->be k f=be k g
 | 0,_=>rfl
 | k+1,h=>by
  show be k f+f k=be k g+g k
  rw[aA λj hj=>h j (by lia),h k (by lia)]
theorem kd {f g:Nat->Rat}:∀{k:Nat},be k (λj=>f j+g j)=be k f+be k g
 | 0=>by show (0:Rat)=0+0;grind
 | k+1=>by
  show be k (λj=>f j+g j)+_=(be k f+f k)+(be k g+g k)
  rw[kd];grind
theorem b7 {f:Nat->Rat} {c:Rat}:∀{k:Nat},be k (λj=>c*f j)=c*be k f
 | 0=>by show (0:Rat)=c*0;grind
 | k+1=>by
  show be k (λj=>c*f j)+_=c*(be k f+f k)
  rw[b7];grind
theorem cC {f:Nat->Rat}:∀{k:Nat},(∀j,j < k->f j=0)->be k f=0
 | 0,_=>rfl
 | k+1,h=>by
  show be k f+f k=0
  rw[cC λj hj=>h j (by lia),h k (by lia)];grind
theorem cV {f:Nat->Rat} {i:Nat}:∀{k:Nat},i < k->(∀j,j < k->j≠i->f j=0)->be k f=f i
 | k+1,hi,h=>by
  show be k f+f k=f i
  by_cases e:i=k
  ·subst e;rw[cC λj hj=>h j (by lia) (by lia)];grind
  ·rw[cV (by lia) λj hj=>h j (by lia),h k (by lia) (λz=>e z.symm)];grind
theorem df {f:Nat->Nat->Rat} {m:Nat}:∀{k:Nat},be k (λi=>be m (f i))=be m (λj=>be k λi=>f i j)
 | 0=>(cC λ_ _=>rfl).symm
 | k+1=>by
  show be k (λi=>be m (f i))+be m (f k)=be m (λj=>be k (λi=>f i j)+f k j)
  rw[df,kd]
theorem Ih {rs:List Nat} {W:iU} {v:Nat->iU} {c:Nat->Rat} (a b:List iU):∀{k:Nat} {W:iU},(∀r∈rs,W r=be k λj=>c j*v j r)->qR rs (a++W :: b)=be k λj=>c j*qR rs (a++v j :: b)
 | 0,W,h=>EX h a b
 | k+1,W,h=>by
  rw[uY (f:=λr=>be k λj=>c j*v j r) (g:=v k) (x:=1) (y:=c k) (λr hr=>by rw[h r hr];show be k _+_=_;grind) a b,Ih a b (k:=k) (W:=λr=>be k λj=>c j*v j r) λr _=>rfl];show _=be k _+_
  grind
end L2
namespace L2
open Nm
def xX (f:Nat->Nat):Nat->List Nat
 | 0=>[]
 | k+1=>f k :: xX f k
def qj (v:Nat->iU):Nat->List iU
 | 0=>[]
 | k+1=>v k :: qj v k
def KA (v:Nat->iU) (i:Nat):Nat->List iU
 | 0=>[]
 | k+1=>if k<=i then [] else v k :: KA v i k
theorem rQ {f:Nat->Nat}:∀{k:Nat},(xX f k).length=k
 | 0=>rfl
 | k+1=>by show (xX f k).length+1=_;rw[rQ]
theorem cw_len {v:Nat->iU}:∀{k:Nat},(qj v k).length=k
 | 0=>rfl
 | k+1=>by show (qj v k).length+1=_;rw[cw_len]
theorem nM {f:Nat->Nat} {r:Nat}:∀{k:Nat},r∈xX f k->∃t,t < k/\r=f t
 | k+1,h=>by
  rcases aG.mp h with h | h
  ·exact ⟨k,by lia,h⟩
  ·obtain ⟨t,a,b⟩:=nM h;exact ⟨t,by lia,b⟩
theorem AA {f g:Nat->Nat}:∀{k:Nat},(∀j,j < k->f j=g j)->xX f k=xX g k
 | 0,_=>rfl
 | k+1,h=>by
  show f k :: xX f k=g k :: xX g k
  rw[h k (by lia),AA λj hj=>h j (by lia)]
theorem cw_congr {f g:Nat->iU}:∀{k:Nat},(∀j,j < k->f j=g j)->qj f k=qj g k
 | 0,_=>rfl
 | k+1,h=>by
  show f k :: qj f k=g k :: qj g k
  rw[h k (by lia),cw_congr λj hj=>h j (by lia)]
theorem cw_mem {v:Nat->iU} {j:Nat}:∀{k:Nat},j < k->v j∈qj v k
 | k+1,h=>by
  by_cases e:j=k
  ·subst e;exact .head _
  ·exact .tail _ (cw_mem (by lia))
theorem cw_in {v:Nat->iU} {x:iU}:∀{k:Nat},x∈qj v k->∃t,t < k/\x=v t
 | k+1,h=>by
  rcases aG.mp h with h | h
  ·exact ⟨k,by lia,h⟩
  ·obtain ⟨t,a,b⟩:=cw_in h;exact ⟨t,by lia,b⟩
theorem MB {v:Nat->iU} {i j:Nat} (h1:i < j):∀{k:Nat},j < k->v j∈KA v i k
 | k+1,h=>by
  show v j∈if k<=i then [] else v k :: KA v i k
  rw[if_neg (by lia)];by_cases e:j=k
  ·subst e;exact .head _
  ·exact .tail _ (MB h1 (by lia))
theorem Gz {v:Nat->iU} {i:Nat} {x:iU}:∀{k:Nat},x∈KA v i k->∃t,t < k/\x=v t
 | k+1,h=>by
  have h:x∈if k<=i then [] else v k :: KA v i k:=h
  split at h
  ·cases h
  ·rcases aG.mp h with h | h
   ·exact ⟨k,by lia,h⟩
   ·obtain ⟨t,a,b⟩:=Gz h;exact ⟨t,by lia,b⟩
theorem cw_split {v:Nat->iU} {i:Nat}:∀{k:Nat},i < k->qj v k=KA v i k++v i :: qj v i
 | k+1,h=>by
  show v k :: qj v k=(if k<=i then [] else v k :: KA v i k)++_
  by_cases e:i=k
  ·subst e;rw[if_pos (aj _)];rfl
  ·rw[if_neg (by lia),cw_split (k:=k) (i:=i) (by lia)];rfl
theorem CY {c:Nat->Rat} (hi:i < k) (hW:∀r∈rs,W r=be k λj=>c j*v j r):qR rs (KA v i k++W :: qj v i)=c i*qR rs (qj v k):=by
 rw[Ih (v:=v) (c:=c) (W:=W) _ _ hW,cV hi λj hj ne=>?_,cw_split hi];rcases bV j i with h | h
 ·obtain ⟨s,t,e⟩:=GW (cw_mem (v:=v) h);rw[e,EZ];grind
 ·obtain ⟨s,t,e⟩:=GW (MB (v:=v) (show i < j by lia) hj);have:=EZ (x:=v j) (rs:=rs) t s (qj v i);rw[e,cz,eJ,this];grind
theorem QP {c:Nat->Rat} (hW:∀r∈rs,W r=be k λj=>c j*v j r):qR rs (W :: qj v k)=0:=by
 have:=Ih (v:=v) (c:=c) (W:=W) [] (qj v k) hW;rw[cT] at this;rw[this];refine cC λj hj=>?_
 obtain ⟨s,t,e⟩:=GW (cw_mem (v:=v) hj);have:=EZ (x:=v j) (rs:=rs) s [] t;rw[cT] at this;rw[e,cT,this];grind
theorem Kq {c:Nat->Rat} (hi:i∉rs) (h1:W i=be k (λj=>c j*v j i)+s) (hW:∀r∈rs,W r=be k λj=>c j*v j r):qR (i :: rs) (W :: qj v k)=s*qR rs (qj v k):=by
 have e:=uY (rs:=i :: rs) (h:=W) (f:=λr=>be k λj=>c j*v j r) (g:=λr=>if r=i then 1 else 0) (x:=1) (y:=s) (λr hr=>by
  rcases aG.mp hr with rfl | hr
  ·rw[h1,if_pos rfl];grind
  ·rw[hW r hr,if_neg (λz=>hi (by rw[<- z];exact hr))];grind) [] (qj v k)
 rw[cT,cT,cT,QP (c:=c) λr _=>rfl] at e
 have e2:qR (i :: rs) ((λr=>if r=i then (1:Rat) else 0) :: qj v k)=qR rs (qj v k):=by
  show 1*(if i=i then (1:Rat) else 0)*qR rs ([]++qj v k)+BQ (λws=>qR rs ws) i ([]++[λr=>if r=i then (1:Rat) else 0]) (qj v k) (-1)=_
  have hF:∀a b,(λws=>qR rs ws) (a++(λr=>if r=i then (1:Rat) else 0) :: b)=0*(λws=>qR rs ws) (a++(λr=>if r=i then (1:Rat) else 0) :: b)+0*(λws=>qR rs ws) (a++(λr=>if r=i then (1:Rat) else 0) :: b):=λa b=>by
   have:=EX (h:=λr=>if r=i then (1:Rat) else 0) (rs:=rs) (λr hr=>if_neg λz=>hi (by rw[<- z];exact hr)) a b
   dsimp only
   rw[this];grind
  have:=EH (r:=i) hF (qj v k) [] [] (-1);rw[this,if_pos rfl,cT];grind
 rw[e2] at e;rw[e];grind
theorem OT {F:List iU->Rat} {r B W:Nat}:∀{post pre:List iU} {s:Rat},(∀ws,(∀w∈ws,w∈pre++post)->ws.length+1=(pre++post).length->Fr 1 B (F ws))->(∀w∈post,Fr 1 W (w r))->Fr 1 1 s->Fr 1 (post.length*(W*B)) (BQ F r pre post s)
 | [],pre,s,_,_,_=>by show Fr 1 _ 0;exact Fr.zero
 | v :: post,pre,s,hF,hw,hs=>by
  have t1:Fr 1 (W*B) (s*v r*F (pre++post)):=by
   have:=(hs.mul (hw v (.head _))).mul (hF (pre++post) (λw h=>by
    rcases az.mp h with h | h
    ·exact eT _ h
    ·exact bR _ (.tail _ h)) (by simp only[av,bD];lia))
   simpa using this
  have t2:=OT (F:=F) (r:=r) (B:=B) (W:=W) (post:=post) (pre:=pre++[v]) (s:=-s) (λws h h'=>hF ws (λw hw=>by simpa using h w hw) (by simpa using h')) (λw h=>hw w (.tail _ h)) (by simpa using hs.neg);exact (t1.add t2).mono (by rw[bD,gH];lia)
theorem Be {W N:Nat}:∀{rs:List Nat} {vs:List iU},vs.length<=N->(∀v∈vs,∀r∈rs,Fr 1 W (v r))->Fr 1 ((N*W)^rs.length) (qR rs vs)
 | [],[],_,_=>by show Fr 1 1 1;exact (Fr.int (i:=1) (by decide))
 | [],_ :: _,_,_=>by show Fr 1 _ 0;exact Fr.zero
 | r :: rs,vs,hl,h=>by
  have:=OT (F:=λws=>qR rs ws) (r:=r) (B:=(N*W)^rs.length) (W:=W) (post:=vs) (pre:=[]) (s:=1) (λws h1 h2=>Be (by rw[cT] at h2;lia) λv hv r' hr'=>h v (by simpa using h1 v hv) r' (.tail _ hr')) (λw hw=>h w hw r (.head _)) (Fr.int (i:=1) (by decide));refine this.mono ?_;rw[bD,gI,cw ((N*W)^rs.length),b8 N];exact ay _ hl
structure xu (a:Nat->Nat->Rat) (m k:Nat) (pm p:Nat->Nat) (l:Nat->Nat->Rat) (d:Rat):Prop where
 inj:∀i j,i < m->j < m->pm i=pm j->i=j
 rng:∀i,i < m->pm i < m
 km:k<=m
 d0:d≠0
 det:d=qR (xX pm k) (qj (λj r=>a r (p j)) k)
 eqs:∀i,i < m->∀c,d*a (pm i) c=be k (λj=>a (pm i) (p j)*l j c)+if i < k then 0 else l i c
 unit:∀i,i < m->∀j,j < k->l i (p j)=if i=j then d else 0
section
variable {a l:Nat->Nat->Rat} {m k:Nat} {pm p:Nat->Nat} {d:Rat}
theorem xu.start (h:∀i,i < m->pm i=i):xu a m 0 pm p a 1 where
 inj i j hi hj e:=by rw[h i hi,h j hj] at e;exact e
 rng i hi:=by rw[h i hi];exact hi
 km:=bL _
 d0:=by decide
 det:=rfl
 eqs i hi c:=by
  rw[h i hi,if_neg (by lia)];show 1*a i c=0+a i c
  grind
 unit i _ j hj:=absurd hj (by lia)
theorem xu.coef (B:xu a m k pm p l d) (hi:i < m):a (pm i) c=be k (λj=>(l j c / d)*a (pm i) (p j))+if i < k then 0 else l i c / d:=by
 have h:=B.eqs i hi c;have d0:=B.d0
 have e:be k (λj=>(l j c / d)*a (pm i) (p j))=(1 / d)*be k (λj=>a (pm i) (p j)*l j c):=by
  rw[<- b7];exact aA λj _=>by grind
 rw[e]
 split at h
 ·rw[if_pos (by assumption)];grind
 ·rw[if_neg (by assumption)];grind
theorem xu.old (B:xu a m k pm p l d) (hi:i < k):l i c=qR (xX pm k) (KA (λj r=>a r (p j)) i k++(λr=>a r c) :: qj (λj r=>a r (p j)) i):=by
 have km:=B.km;have d0:=B.d0;rw[CY (v:=λj r=>a r (p j)) (c:=λj=>l j c / d) hi λr hr=>?_,<- B.det]
 ·grind
 ·obtain ⟨t,ht,rfl⟩:=nM hr;have:=B.coef (i:=t) (c:=c) (by lia);rw[if_pos ht] at this;rw[this];grind
theorem xu.new (B:xu a m k pm p l d) (h1:k<=i) (hi:i < m):l i c=qR (pm i :: xX pm k) ((λr=>a r c) :: qj (λj r=>a r (p j)) k):=by
 have km:=B.km;have d0:=B.d0
 have hn:pm i∉xX pm k:=λhm=>by
  obtain ⟨t,ht,e⟩:=nM hm;have:=B.inj i t hi (by lia) e
  lia
 have e1:a (pm i) c=be k (λj=>(l j c / d)*a (pm i) (p j))+l i c / d:=by
  have:=B.coef (i:=i) (c:=c) hi;rwa [if_neg (by lia)] at this
 have e2:∀r∈xX pm k,a r c=be k (λj=>(l j c / d)*a r (p j)):=λr hr=>by
  obtain ⟨t,ht,rfl⟩:=nM hr;have:=B.coef (i:=t) (c:=c) (by lia);rw[if_pos ht] at this;rw[this];grind
 rw[Kq (v:=λj r=>a r (p j)) (c:=λj=>l j c / d) (W:=λr=>a r c) (s:=l i c / d) hn e1 e2,<- B.det];grind
theorem xu.fr (B:xu a m k pm p l d) (hN:k < N) (hW:1<=W) (ha:∀i,i < m->∀c,Fr 1 W (a i c)) (hi:i < m):Fr 1 ((N*W)^(k+1)) (l i c):=by
 have km:=B.km;have mono:∀t,t<=k+1->(N*W)^t<=(N*W)^(k+1):=λt ht=>ao (bQ (by lia) hW) ht
 have ha':∀r∈xX pm k,∀c,Fr 1 W (a r c):=λr hr c=>by
  obtain ⟨t,ht,rfl⟩:=nM hr;exact ha _ (B.rng t (by lia)) c
 by_cases h:i < k
 ·rw[B.old h];refine (Be (W:=W) (N:=N) ?_ ?_).mono (mono _ (by rw[rQ];lia))
  ·have:=congrArg List.length (cw_split (v:=λj r=>a r (p j)) h);rw[av,bD,cw_len] at this;rw[av,bD]
   lia
  ·intro v hv r hr;rcases az.mp hv with hv | hv
   ·obtain ⟨t,_,rfl⟩:=Gz hv;exact ha' r hr _
   ·rcases aG.mp hv with rfl | hv
    ·exact ha' r hr _
    ·obtain ⟨t,_,rfl⟩:=cw_in hv;exact ha' r hr _
 ·rw[B.new (by lia) hi];refine (Be (W:=W) (N:=N) ?_ ?_).mono (mono _ (by rw[bD,rQ];lia))
  ·rw[bD,cw_len]
   lia
  ·intro v hv r hr
   have hr':∀c,Fr 1 W (a r c):=λc=>by
    rcases aG.mp hr with rfl | hr
    ·exact ha _ (B.rng i hi) c
    ·exact ha' r hr c
   rcases aG.mp hv with rfl | hv
   ·exact hr' _
   ·obtain ⟨t,_,rfl⟩:=cw_in hv;exact hr' _
theorem xu.dfr (B:xu a m k pm p l d) (hN:k<=N) (ha:∀i,i < m->∀c,Fr 1 W (a i c)):Fr 1 ((N*W)^k) d:=by
 have km:=B.km;rw[B.det]
 have:=Be (W:=W) (N:=N) (rs:=xX pm k) (vs:=qj (λj r=>a r (p j)) k) (by rw[cw_len];exact hN) λv hv r hr=>by
  obtain ⟨t,ht,rfl⟩:=nM hr;obtain ⟨t',_,rfl⟩:=cw_in hv;exact ha _ (B.rng t (by lia)) _
 rwa [rQ] at this
def jx (k t i:Nat):Nat:=if i=k then t else if i=t then k else i
theorem tz (hk:k < m) (ht:t < m) (hi:i < m):jx k t i < m:=by
 unfold jx
 split
 ·exact ht
 ·split
  ·exact hk
  ·exact hi
theorem Pw (h:jx k t i=jx k t j):i=j:=by
 unfold jx at h
 split at h <;> split at h <;> (try split at h) <;> (try split at h) <;> lia
theorem uA (h:k<=t) (hi:i < k):jx k t i=i:=by
 unfold jx;rw[if_neg (by lia),if_neg (by lia)]
theorem vf (h:k<=t) (hi:k<=i):k<=jx k t i:=by
 unfold jx
 split
 ·exact h
 ·split <;> lia
theorem xu.swap (B:xu a m k pm p l d) {t:Nat} (h:k<=t) (ht:t < m):xu a m k (λi=>pm (jx k t i)) p (λi=>l (jx k t i)) d where
 inj i j hi hj e:=Pw (B.inj _ _ (tz (by lia) ht hi) (tz (by lia) ht hj) e)
 rng i hi:=B.rng _ (tz (by lia) ht hi)
 km:=B.km
 d0:=B.d0
 det:=by rw[B.det,AA (f:=pm) (g:=λi=>pm (jx k t i)) λj hj=>by rw[uA h hj]]
 eqs i hi c:=by
  have e:=B.eqs (jx k t i) (tz (by lia) ht hi) c;have e1:be k (λj=>a (pm (jx k t i)) (p j)*l (jx k t j) c)=be k (λj=>a (pm (jx k t i)) (p j)*l j c):=aA λj hj=>by rw[uA h hj]
  rw[e1];by_cases hk:i < k
  ·rw[uA h hk] at e ⊢;exact e
  ·rw[if_neg hk];rw[if_neg (by have:=vf h (show k<=i by lia);lia)] at e;exact e
 unit i hi j hj:=by
  rw[B.unit _ (tz (by lia) ht hi) j hj];by_cases hk:i < k
  ·rw[uA h hk]
  ·have:=vf h (show k<=i by lia);rw[if_neg (by lia),if_neg (by lia)]
theorem xu.step (B:xu a m k pm p l d) {c0:Nat} (hk:k < m) (h0:l k c0≠0):xu a m (k+1) pm (λj=>if j=k then c0 else p j) (λi c=>if i=k then l k c else (l k c0*l i c - l i c0*l k c) / d) (l k c0) where
 inj:=B.inj
 rng:=B.rng
 km:=hk
 d0:=h0
 det:=by
  rw[B.new (aj _) hk];show _=qR (pm k :: xX pm k) ((λr=>a r (if k=k then c0 else p k)) :: qj _ k)
  rw[if_pos rfl];congr 2;exact cw_congr λj hj=>by rw[if_neg (show j≠k by lia)]
 eqs i hi c:=by
  have d0:=B.d0;have e1:=B.eqs i hi c;have e2:=B.eqs i hi c0;show l k c0*a (pm i) c=(be k _+_)+_
  have s1:be k (λj=>a (pm i) (if j=k then c0 else p j)*(if j=k then l k c else (l k c0*l j c - l j c0*l k c) / d))=(l k c0 / d)*be k (λj=>a (pm i) (p j)*l j c)+(- l k c / d)*be k (λj=>a (pm i) (p j)*l j c0):=by
   rw[<- b7,<- b7,<- kd];refine aA λj hj=>?_
   rw[if_neg (show j≠k by lia),if_neg (show j≠k by lia)];grind
  rw[s1];simp only[if_true];generalize be k (λj=>a (pm i) (p j)*l j c)=S1 at e1 ⊢;generalize be k (λj=>a (pm i) (p j)*l j c0)=S2 at e2 ⊢;rcases dZ i k with h | h | h
  ·rw[if_pos h] at e1 e2;rw[if_pos (by lia)];grind
  ·subst h;rw[if_neg (by lia)] at e1 e2;rw[if_pos (by lia)];grind
  ·rw[if_neg (by lia)] at e1 e2;rw[if_neg (by lia),if_neg (by lia)];grind
 unit i hi j hj:=by
  have d0:=B.d0;by_cases e:j=k
  ·subst e;simp only[if_true];by_cases ei:i=j
   ·rw[if_pos ei,if_pos ei]
   ·rw[if_neg ei,if_neg ei];grind
  ·have hj':j < k:=by lia
   rw[if_neg e];by_cases ei:i=k
   ·rw[if_pos ei,B.unit k hk j hj',if_neg (by lia),if_neg (by lia)]
   ·rw[if_neg ei,B.unit i hi j hj',B.unit k hk j hj',if_neg (show k≠j by lia)]
    split
    ·grind
    ·grind
end
def eG (m:Nat) (a:Nat->Nat->Rat) (x:Nat->Rat):Prop:=∃w:Nat->Rat,∀c,x c=be m λt=>w t*a t c
section
variable {m m' k n:Nat} {a b:Nat->Nat->Rat} {x y:Nat->Rat}
theorem eG.row (hi:i < m):eG m a (a i):=⟨λt=>if t=i then 1 else 0,λc=>by
 rw[cV hi λj _ ne=>by dsimp only;rw[if_neg ne];grind]
 dsimp only
 rw[if_pos rfl];grind⟩
theorem eG.lin (α β:Rat) (hx:eG m a x) (hy:eG m a y):eG m a λc=>α*x c+β*y c:=by
 obtain ⟨w,hw⟩:=hx;obtain ⟨v,hv⟩:=hy;refine ⟨λt=>α*w t+β*v t,λc=>?_⟩
 dsimp only
 rw[hw c,hv c,<- b7,<- b7,<- kd];exact aA λj _=>by grind
theorem eG.congr (h:∀c,x c=y c) (hx:eG m a x):eG m a y:=by obtain ⟨w,hw⟩:=hx;exact ⟨w,λc=>by rw[<- h c];exact hw c⟩
theorem eG.trans (h:∀t,t < m'->eG m a (b t)) (hx:eG m' b x):eG m a x:=by
 obtain ⟨v,hv⟩:=hx
 have h2:∀t,∃w:Nat->Rat,t < m'->∀c,b t c=be m λs=>w s*a s c:=λt=>by
  by_cases ht:t < m'
  ·obtain ⟨w,hw⟩:=h t ht;exact ⟨w,λ_=>hw⟩
  ·exact ⟨λ_=>0,λz=>absurd z ht⟩
 have hc:=Classical.axiomOfChoice h2;obtain ⟨w,hw⟩:=hc;refine ⟨λs=>be m' λt=>v t*w t s,λc=>?_⟩;rw[hv c];have e1:be m' (λt=>v t*b t c)=be m' (λt=>be m λs=>v t*(w t s*a s c)):=aA λt ht=>by rw[hw t ht c,<- b7]
 rw[e1,df];refine aA λs _=>?_
 have:be m' (λt=>v t*w t s)*a s c=a s c*be m' (λt=>v t*w t s):=b6 ..;rw[this,<- b7];exact aA λt _=>by grind
theorem eG.zero (h:∀c,x c=0):eG m a x:=⟨λ_=>0,λc=>by rw[h c,cC λ_ _=>by grind]⟩
end
structure DA (m n:Nat) (a:Nat->Nat->Rat) (k:Nat) (p:Nat->Nat) (R:Nat->Nat->Rat):Prop where
 inc:∀i j,i < j->j < k->p i < p j
 low:∀j,j < k->p j < n
 unit:∀i,i < k->∀j,j < k->R i (p j)=if i=j then 1 else 0
 lead:∀i,i < k->∀c,c < p i->R i c=0
 span:∀i,i < m->eG k R (a i)
 back:∀i,i < k->eG m a (R i)
section
variable {m m' k k' n:Nat} {a a' R R':Nat->Nat->Rat} {p p':Nat->Nat} {x:Nat->Rat}
theorem DA.coef (h:DA m n a k p R) (hx:eG k R x) (c:Nat):x c=be k λj=>x (p j)*R j c:=by
 obtain ⟨w,hw⟩:=hx;rw[hw c];refine aA λj hj=>?_
 rw[hw (p j),cV hj λt ht ne=>by rw[h.unit t ht j hj,if_neg ne];grind,h.unit j hj j hj,if_pos rfl];grind
theorem DA.lead_in (h:DA m n a k p R) (hx:eG k R x) (h1:x c≠0) (h0:∀c',c' < c->x c'=0):∃j,j < k/\p j=c:=by
 refine Classical.byContradiction λhn=>h1 ?_
 rw[h.coef hx c];refine cC λj hj=>?_
 rcases dZ (p j) c with z | z | z
 ·rw[h0 _ z];grind
 ·exact absurd ⟨j,hj,z⟩ hn
 ·rw[h.lead j hj c z];grind
theorem inc_le (h1:∀i j,i < j->j < k->p i < p j) (h2:∀i j,i < j->j < k'->p' i < p' j) (hs:∀j,j < k'->∃i,i < k/\p i=p' j):∀{j:Nat},j < k'->∀{i:Nat},i < k->p i=p' j->j<=i
 | 0,_,_,_,_=>bL _
 | j+1,hj,i,hi,e=>by
  obtain ⟨i0,hi0,e0⟩:=hs j (by lia);have:=inc_le h1 h2 hs (j:=j) (by lia) hi0 e0;have lt:=h2 j (j+1) (by lia) hj;rcases dZ i0 i with z | z | z
  ·lia
  ·subst z;lia
  ·have:=h1 i i0 z hi0;lia
theorem L4 (h1:∀i j,i < j->j < k->p i < p j) (h:i<=j) (hj:j < k):p i<=p j:=by
 rcases bV i j with z | z
 ·exact aT (h1 i j z hj)
 ·have:i=j:=by lia
  rw[this];exact aj _
theorem Jn (h1:∀i j,i < j->j < k->p i < p j) (h2:∀i j,i < j->j < k'->p' i < p' j) (hs:∀j,j < k'->∃i,i < k/\p i=p' j):k'<=k/\∀j,j < k'->p j<=p' j:=by
 refine ⟨?_,λj hj=>?_⟩
 ·rcases lW k' with z | z
  ·lia
  ·obtain ⟨i,hi,e⟩:=hs (k' - 1) (by lia);have:=inc_le h1 h2 hs (j:=k' - 1) (by lia) hi e
   lia
 ·obtain ⟨i,hi,e⟩:=hs j hj;rw[<- e];exact L4 h1 (inc_le h1 h2 hs hj hi e) hi
theorem DA.uniq (h:DA m n a k p R) (h':DA m' n a' k' p' R') (s1:∀i,i < m->eG m' a' (a i)) (s2:∀i,i < m'->eG m a (a' i)):k=k'/\(∀j,j < k->p j=p' j)/\∀i,i < k->∀c,R i c=R' i c:=by
 have x1:∀i,i < k->eG k' R' (R i):=λi hi=>eG.trans (λt ht=>h'.span t ht) (eG.trans s1 (h.back i hi))
 have x2:∀i,i < k'->eG k R (R' i):=λi hi=>eG.trans (λt ht=>h.span t ht) (eG.trans s2 (h'.back i hi))
 have y1:∀j,j < k->∃i,i < k'/\p' i=p j:=λj hj=>h'.lead_in (x1 j hj) (by rw[h.unit j hj j hj,if_pos rfl];decide) (h.lead j hj)
 have y2:∀j,j < k'->∃i,i < k/\p i=p' j:=λj hj=>h.lead_in (x2 j hj) (by rw[h'.unit j hj j hj,if_pos rfl];decide) (h'.lead j hj)
 obtain ⟨z1,w1⟩:=Jn h'.inc h.inc y1;obtain ⟨z2,w2⟩:=Jn h.inc h'.inc y2;have ek:k=k':=MP z1 z2;subst ek;have ep:∀j,j < k->p j=p' j:=λj hj=>MP (w2 j hj) (w1 j hj)
 refine ⟨rfl,ep,λi hi c=>?_⟩;rw[h.coef (x2 i hi) c,cV hi λj hj ne=>by rw[ep j hj,h'.unit i hi j hj,if_neg (λz=>ne z.symm)];grind,ep i hi,h'.unit i hi i hi,if_pos rfl];grind
end
structure jR (a:Nat->Nat->Rat) (m k P:Nat) (p:Nat->Nat) (l:Nat->Nat->Rat) (d:Rat):Prop where
 km:k<=m
 d0:d≠0
 unit:∀i,i < m->∀j,j < k->l i (p j)=if i=j then d else 0
 inc:∀i j,i < j->j < k->p i < p j
 low:∀j,j < k->p j < P
 zero:∀i,k<=i->i < m->∀c,c < P->l i c=0
 lead:∀j,j < k->∀c,c < p j->l j c=0
 there:∀i,i < m->eG m l (a i)
 back:∀i,i < m->eG m a (l i)
section
variable {m k n P:Nat} {a l l':Nat->Nat->Rat} {p:Nat->Nat} {d d':Rat}
theorem jR.start:jR a m 0 0 p a 1 where
 km:=bL _
 d0:=by decide
 unit _ _ j hj:=absurd hj (by lia)
 inc _ j _ hj:=absurd hj (by lia)
 low j hj:=absurd hj (by lia)
 zero _ _ _ c hc:=absurd hc (by lia)
 lead j hj:=absurd hj (by lia)
 there i hi:=eG.row hi
 back i hi:=eG.row hi
theorem jR.skip (E:jR a m k P p l d) (h:∀i,k<=i->i < m->l i P=0):jR a m k (P+1) p l d :=
 ⟨E.km,E.d0,E.unit,E.inc,λj hj=>Nat.lt_succ_of_lt (E.low j hj),λi h1 h2 c hc=>by
  by_cases e:c=P
  ·rw[e];exact h i h1 h2
  ·exact E.zero i h1 h2 c (by lia),E.lead,E.there,E.back⟩
theorem RP:jx k t (jx k t i)=i:=by
 unfold jx
 split
 ·split <;> (try split) <;> lia
 ·split
  ·rw[if_pos rfl];lia
  ·rfl
theorem jR.swap (E:jR a m k P p l d) {t:Nat} (h:k<=t) (ht:t < m):jR a m k P p (λi=>l (jx k t i)) d where
 km:=E.km
 d0:=E.d0
 unit i hi j hj:=by
  rw[E.unit _ (tz (by lia) ht hi) j hj];by_cases hk:i < k
  ·rw[uA h hk]
  ·have:=vf h (show k<=i by lia);rw[if_neg (by lia),if_neg (by lia)]
 inc:=E.inc
 low:=E.low
 zero i h1 h2 c hc:=E.zero _ (vf h h1) (tz (by lia) ht h2) c hc
 lead j hj c hc:=by rw[uA h hj];exact E.lead j hj c hc
 there i hi:=eG.trans (λs hs=>eG.congr (λc=>by rw[RP]) (eG.row (a:=λi=>l (jx k t i)) (i:=jx k t s) (tz (by lia) ht hs))) (E.there i hi)
 back i hi:=E.back _ (tz (by lia) ht hi)
theorem jR.step (E:jR a m k P p l d) (hk:k < m) (h0:d'≠0) (unit':∀i,i < m->∀j,j < k+1->l' i (if j=k then P else p j)=if i=j then d' else 0)
  (hl:∀i,i < m->∃β γ:Rat,β≠0/\(i=k->γ=0)/\∀c,l' i c=β*l i c+γ*l k c):jR a m (k+1) (P+1) (λj=>if j=k then P else p j) l' d' where
 km:=hk
 d0:=h0
 unit:=unit'
 inc i j hij hj:=by
  by_cases e:j=k
  ·rw[if_pos e,if_neg (by lia)];exact E.low i (by lia)
  ·rw[if_neg e,if_neg (by lia)];exact E.inc i j hij (by lia)
 low j hj:=by
  by_cases e:j=k
  ·rw[if_pos e];lia
  ·rw[if_neg e];exact Nat.lt_succ_of_lt (E.low j (by lia))
 zero i h1 h2 c hc:=by
  by_cases e:c=P
  ·have:=unit' i h2 k (by lia);rw[if_pos rfl,if_neg (by lia)] at this;rw[e];exact this
  ·obtain ⟨β,γ,_,_,q⟩:=hl i h2;rw[q c,E.zero i (by lia) h2 c (by lia),E.zero k (aj _) hk c (by lia)];grind
 lead j hj c hc:=by
  have km:=E.km;obtain ⟨β,γ,_,_,q⟩:=hl j (by lia);by_cases e:j=k
  ·rw[if_pos e] at hc;rw[q c,e,E.zero k (aj _) hk c hc];grind
  ·rw[if_neg e] at hc;have:=E.low j (by lia);rw[q c,E.lead j (by lia) c hc,E.zero k (aj _) hk c (by lia)];grind
 there i hi:=by
  refine eG.trans (λs hs=>?_) (E.there i hi);obtain ⟨β,γ,b0,_,q⟩:=hl s hs;obtain ⟨βk,γk,bk0,gk,qk⟩:=hl k hk;have g0:=gk rfl;refine eG.congr (λc=>?_) (eG.lin (1 / β) (-(γ / β) / βk) (eG.row (a:=l') hs) (eG.row (a:=l') hk));rw[q c,qk c,g0];grind
 back i hi:=by
  obtain ⟨β,γ,_,_,q⟩:=hl i hi;exact eG.congr (λc=>(q c).symm) (eG.lin β γ (E.back i hi) (E.back k hk))
theorem jR.done (E:jR a m k n p l d) (ha:∀i,i < m->∀c,n<=c->a i c=0):DA m n a k p (λi c=>l i c / d) where
 inc:=E.inc
 low:=E.low
 unit i hi j hj:=by
  have d0:=E.d0;have km:=E.km;rw[E.unit i (by lia) j hj]
  split
  ·grind
  ·grind
 lead i hi c hc:=by
  rw[E.lead i hi c hc];grind
 span i hi:=by
  have d0:=E.d0;refine eG.trans (λs hs=>?_) (E.there i hi);by_cases z:s < k
  ·refine eG.congr (λc=>?_) (eG.lin d 0 (eG.row (a:=λi c=>l i c / d) z) (eG.row (a:=λi c=>l i c / d) z));grind
  ·refine eG.zero λc=>?_
   by_cases hc:c < n
   ·exact E.zero s (by lia) hs c hc
   ·obtain ⟨w,hw⟩:=E.back s hs;rw[hw c,cC λt ht=>by rw[ha t ht c (by lia)];grind]
 back i hi:=by
  have km:=E.km;have d0:=E.d0;refine eG.congr (λc=>?_) (eG.lin (1 / d) 0 (E.back i (by lia)) (E.back i (by lia)));grind
end
def dU (ls:List (List Int)) (i c:Nat):Rat:=(((ls.getD i []).getD c 0:Int):Rat)
def br (rows:LR9) (i c:Nat):Rat:=(rows.getD i []).getD c 0
def oX (ls:List (List Int)) (k t:Nat):List (List Int):=(ls.set k (ls.getD t [])).set t (ls.getD k [])
def GB (ls:List (List Int)) (k c:Nat) (b:Int):List (List Int):=(ls.map λzs=>List.zipWith (λx y=>((ls.getD k []).getD c 0*x - zs.getD c 0*y).fdiv b) zs (ls.getD k [])).set k (ls.getD k [])
section
variable {ls ls0:List (List Int)} {k t n P c:Nat} {b d:Int} {ps:List Nat}
theorem sG {α:Type} {l:List α} {x e:α} (hi:i < l.length):(l.set i x).getD j e=if j=i then x else l.getD j e:=by
 rw[aa,aa,List.getElem?_set];by_cases h:j=i
 ·subst h;rw[if_pos rfl,if_pos hi,if_pos rfl];rfl
 ·rw[if_neg (λz=>h z.symm),if_neg h]
theorem xD:(oX ls k t).length=ls.length:=by unfold oX;rw[ee,ee]
theorem ME:(GB ls k c b).length=ls.length:=by unfold GB;rw[ee,ag]
theorem getD_in {α:Type} {l:List α} {e:α} (h:i < l.length):l.getD i e∈l:=by
 rw[aa,af h];exact aE h
theorem Iw (w:∀zs∈ls,zs.length=n) (hk:k < ls.length) (ht:t < ls.length):∀zs∈oX ls k t,zs.length=n:=λzs hz=>by
 unfold oX at hz;rcases cH hz with h | h
 ·rcases cH h with h | h
  ·exact w zs h
  ·rw[h];exact w _ (getD_in ht)
 ·rw[h];exact w _ (getD_in hk)
theorem JC (w:∀zs∈ls,zs.length=n) (hk:k < ls.length):∀zs∈GB ls k c b,zs.length=n:=λzs hz=>by
 unfold GB at hz;rcases cH hz with h | h
 ·obtain ⟨y,hy,rfl⟩:=aw.mp h;rw[cJ,w y hy,w _ (getD_in hk)]
  lia
 ·rw[h];exact w _ (getD_in hk)
theorem vU (hk:k < ls.length) (ht:t < ls.length) (i c:Nat):dU (oX ls k t) i c=dU ls (jx k t i) c:=by
 unfold dU oX jx;rw[sG (by rw[ee];exact ht),sG hk];by_cases h1:i=t
 ·rw[if_pos h1];by_cases h2:i=k
  ·rw[if_pos h2,<- h1,<- h2]
  ·rw[if_neg h2,if_pos h1]
 ·rw[if_neg h1];by_cases h2:i=k
  ·rw[if_pos h2,if_pos h2]
  ·rw[if_neg h2,if_neg h2,if_neg h1]
theorem uX (w:∀zs∈ls,zs.length=n) (hc:n<=c):dU ls i c=0:=by
 unfold dU;by_cases h:i < ls.length
 ·have:=w _ (getD_in (e:=[]) h);rw[aa (l:=ls.getD i []),aS (by lia)];rfl
 ·rw[aa (l:=ls),aS (by lia)];rfl
theorem sS {x:Int} (h:(x:Rat)=0):x=0:=by
 have:(x:Rat)=((0:Int):Rat):=h;exact dH.mp this
theorem Ig {x b:Int} (hb:b≠0) (hq:∃z:Int,q=(z:Rat)) (e:(x:Rat)=(b:Rat)*q):((x.fdiv b:Int):Rat)=q:=by
 obtain ⟨z,rfl⟩:=hq;rw[<- a7] at e;have:=dH.mp e;rw[this,Int.mul_fdiv_cancel_left _ hb]
theorem vT (h:Fr 1 W q):∃z:Int,q=(z:Rat):=by
 obtain ⟨z,e,_⟩:=h;exact ⟨z,by rw[<- e];simp⟩
theorem uW {z:Int} (h:Fr 1 W (z:Rat)):z.natAbs<=W:=by
 obtain ⟨y,e,b⟩:=h;have:(z:Rat)=(y:Rat):=by rw[<- e];simp
 rw[dH.mp this];simpa using b
theorem Mo (w:∀zs∈ls,zs.length=n) (hk:k < ls.length) (hb:b≠0) (hi:i < ls.length) (hz:∀c,∃z:Int,(dU ls k P*dU ls i c - dU ls i P*dU ls k c) / (b:Rat)=(z:Rat)) (c:Nat) :
  dU (GB ls k P b) i c=if i=k then dU ls k c else (dU ls k P*dU ls i c - dU ls i P*dU ls k c) / (b:Rat):=by
 by_cases e:i=k
 ·rw[if_pos e];unfold dU GB;rw[sG (by rw[ag];exact hk),if_pos e]
 ·rw[if_neg e];by_cases hc:c < n
  ·have hb':(b:Rat)≠0:=λz=>hb (sS z)
   have lk:=w _ (getD_in (e:=[]) hk);have li:=w _ (getD_in (e:=[]) hi)
   have e1:dU (GB ls k P b) i c=(((((ls.getD k []).getD P 0*(ls.getD i []).getD c 0 - (ls.getD i []).getD P 0*(ls.getD k []).getD c 0).fdiv b:Int)):Rat):=by
    unfold GB;rw[dU,sG (by rw[ag];exact hk),if_neg e];rw[aa (l:=List.map _ ls),aD,af hi];show ((((List.zipWith _ ls[i] (ls.getD k [])).getD c 0:Int)):Rat)=_
    have ei:ls.getD i []=ls[i]:=by rw[aa,af hi];rfl
    rw[<- ei];rw[aa (l:=List.zipWith _ _ _),cG,aa (l:=ls.getD i []) (i:=c),aa (l:=ls.getD k []) (i:=c),af (show c < (ls.getD i []).length by lia),af (show c < (ls.getD k []).length by lia)];rfl
   rw[e1];refine Ig hb (hz c) ?_;rw[BN,a7,a7];show _=(b:Rat)*((dU ls k P*dU ls i c - dU ls i P*dU ls k c) / (b:Rat))
   show dU ls k P*dU ls i c - dU ls i P*dU ls k c=_
   grind
  ·rw[uX (JC w hk) (show n<=c by lia),uX w (i:=i) (show n<=c by lia),uX w (i:=k) (show n<=c by lia)];grind
end
section
variable {m k n P:Nat} {a l l2:Nat->Nat->Rat} {pm p p2:Nat->Nat} {d:Rat}
theorem xu.congr (B:xu a m k pm p l d) (hp:∀j,j < k->p2 j=p j) (hl:∀i,i < m->∀c,l2 i c=l i c):xu a m k pm p2 l2 d where
 inj:=B.inj
 rng:=B.rng
 km:=B.km
 d0:=B.d0
 det:=by rw[B.det,cw_congr (f:=λj r=>a r (p j)) (g:=λj r=>a r (p2 j)) λj hj=>by rw[hp j hj]]
 eqs i hi c:=by
  have km:=B.km;rw[B.eqs i hi c,hl i hi c];congr 1;exact aA λj hj=>by rw[hp j hj,hl j (by lia) c]
 unit i hi j hj:=by rw[hp j hj,hl i hi];exact B.unit i hi j hj
theorem eG.rows (h:∀i,i < m->∀c,l2 i c=l i c) (hx:eG m l x):eG m l2 x:=by obtain ⟨w,hw⟩:=hx;exact ⟨w,λc=>by rw[hw c];exact aA λt ht=>by rw[h t ht c]⟩
theorem jR.congr (E:jR a m k P p l d) (hp:∀j,j < k->p2 j=p j) (hl:∀i,i < m->∀c,l2 i c=l i c):jR a m k P p2 l2 d where
 km:=E.km
 d0:=E.d0
 unit i hi j hj:=by rw[hp j hj,hl i hi];exact E.unit i hi j hj
 inc i j hij hj:=by rw[hp i (by lia),hp j hj];exact E.inc i j hij hj
 low j hj:=by rw[hp j hj];exact E.low j hj
 zero i h1 h2 c hc:=by rw[hl i h2];exact E.zero i h1 h2 c hc
 lead j hj c hc:=by
  have km:=E.km;rw[hp j hj] at hc;rw[hl j (by lia)];exact E.lead j hj c hc
 there i hi:=(E.there i hi).rows hl
 back i hi:=(E.back i hi).congr λc=>(hl i hi c).symm
theorem jR.kP (E:jR a m k P p l d):k<=P:=by
 have:∀j,j < k->j<=p j:=by
  intro j
  induction j with
  | zero=>intro _;exact bL _
  | succ j ih =>
   intro hj;have:=ih (by lia);have:=E.inc j (j+1) (by lia) hj
   lia
 rcases lW k with z | z
 ·lia
 ·have h1:=this (k - 1) (by lia);have h2:=E.low (k - 1) (by lia)
  lia
end
structure Dz (ls0:List (List Int)) (n P:Nat) (ls:List (List Int)) (ps:List Nat) (d:Int):Prop where
 len:ls.length=ls0.length
 wide:∀zs∈ls,zs.length=n
 bar:∃pm,xu (dU ls0) ls0.length ps.length pm (λj=>ps.getD j 0) (dU ls) d
 el:jR (dU ls0) ls0.length ps.length P (λj=>ps.getD j 0) (dU ls) d
section
variable {ls0 ls:List (List Int)} {n P:Nat} {ps:List Nat} {d:Int}
theorem Dz.start (w:∀zs∈ls0,zs.length=n):Dz ls0 n 0 ls0 [] 1:=⟨rfl,w,⟨λi=>i,xu.start λ_ _=>rfl⟩,jR.start⟩
theorem Dz.d0 (h:Dz ls0 n P ls ps d):d≠0:=λz=>h.el.d0 (by rw[z];rfl)
theorem Dz.skip (h:Dz ls0 n P ls ps d) (hz:∀i,ps.length<=i->i < ls.length->dU ls i P=0):Dz ls0 n (P+1) ls ps d:=⟨h.len,h.wide,h.bar,h.el.skip λi h1 h2=>hz i h1 (by rw[h.len];exact h2)⟩
theorem getD_snoc (hj:j < l.length+1):(l++[x]).getD j 0=if j=l.length then x else l.getD j 0:=by
 rw[aa,aa];by_cases e:j=l.length
 ·rw[if_pos e,e,bW (aj _),nh];rfl
 ·rw[if_neg e,cx (by lia)]
theorem Dz.int (h:Dz ls0 n P ls ps d) (hW:1<=W) (h0:∀i,i < ls0.length->∀c,Fr 1 W (dU ls0 i c)) (ht:ps.length<=t) (ht2:t < ls.length) (hne:dU ls t P≠0) :
  ∀i,i < ls.length->i≠ps.length->∀c,∃z:Int,(dU (oX ls ps.length t) ps.length P*dU (oX ls ps.length t) i c - dU (oX ls ps.length t) i P*dU (oX ls ps.length t) ps.length c) / (d:Rat)=(z:Rat):=λi hi ne c=>by
 obtain ⟨pm,B⟩:=h.bar;have hl:=h.len;have hk:ps.length < ls.length:=by lia
 have B1:=(B.swap ht (by lia)).congr (p2:=λj=>ps.getD j 0) (l2:=dU (oX ls ps.length t)) (λ_ _=>rfl) (λi _ c=>vU hk ht2 i c)
 have h1:dU (oX ls ps.length t) ps.length P≠0:=by
  rw[vU hk ht2];unfold jx;rw[if_pos rfl];exact hne
 have B2:=B1.step (c0:=P) (by lia) h1;have:=B2.fr (W:=W) (N:=ps.length+2) (by lia) hW h0 (i:=i) (c:=c) (by lia);rw[if_neg ne] at this;exact vT this
theorem Dz.step (h:Dz ls0 n P ls ps d) (hW:1<=W) (h0:∀i,i < ls0.length->∀c,Fr 1 W (dU ls0 i c)) (ht:ps.length<=t) (ht2:t < ls.length) (hne:dU ls t P≠0) :
  Dz ls0 n (P+1) (GB (oX ls ps.length t) ps.length P d) (ps++[P]) (((GB (oX ls ps.length t) ps.length P d).getD ps.length []).getD P 0):=by
 obtain ⟨pm,B⟩:=h.bar;have hl:=h.len;have hk:ps.length < ls.length:=by lia
 have hz:=h.int hW h0 ht ht2 hne;have w1:=Iw h.wide hk ht2;have k1:ps.length < (oX ls ps.length t).length:=by rw[xD];exact hk
 have B1:=(B.swap ht (by lia)).congr (p2:=λj=>ps.getD j 0) (l2:=dU (oX ls ps.length t)) (λ_ _=>rfl) (λi _ c=>vU hk ht2 i c);have E1:=(h.el.swap ht (by lia)).congr (p2:=λj=>ps.getD j 0) (l2:=dU (oX ls ps.length t)) (λ_ _=>rfl) (λi _ c=>vU hk ht2 i c)
 have h1:dU (oX ls ps.length t) ps.length P≠0:=by
  rw[vU hk ht2];unfold jx;rw[if_pos rfl];exact hne
 have B2:=B1.step (c0:=P) (by lia) h1
 have fc:∀i,i < ls0.length->∀c,dU (GB (oX ls ps.length t) ps.length P d) i c=if i=ps.length then dU (oX ls ps.length t) ps.length c else (dU (oX ls ps.length t) ps.length P*dU (oX ls ps.length t) i c - dU (oX ls ps.length t) i P*dU (oX ls ps.length t) ps.length c) / (d:Rat):=λi hi c=>by
  by_cases e:i=ps.length
  ·rw[if_pos e];unfold dU GB;rw[sG (by rw[ag];exact k1),if_pos e]
  ·have:=Mo w1 k1 h.d0 (i:=i) (by rw[xD];lia) (hz i (by lia) e) c;rw[this]
 have ed:(((((GB (oX ls ps.length t) ps.length P d).getD ps.length []).getD P 0:Int)):Rat)=dU (oX ls ps.length t) ps.length P:=by
  have:=fc ps.length (by lia) P;rw[if_pos rfl] at this;exact this
 have lp:(ps++[P]).length=ps.length+1:=by rw[av];rfl
 have hp:∀j,j < ps.length+1->(ps++[P]).getD j 0=if j=ps.length then P else ps.getD j 0:=λj hj=>getD_snoc hj
 refine ⟨by rw[ME,xD];exact hl,JC w1 k1,⟨λi=>pm (jx ps.length t i),?_⟩,?_⟩
 ·rw[ed,lp];exact B2.congr hp fc
 ·rw[ed,lp];refine jR.congr (E1.step (d':=dU (oX ls ps.length t) ps.length P) (l':=λi c=>if i=ps.length then dU (oX ls ps.length t) ps.length c else (dU (oX ls ps.length t) ps.length P*dU (oX ls ps.length t) i c - dU (oX ls ps.length t) i P*dU (oX ls ps.length t) ps.length c) / (d:Rat)) (by lia) h1 B2.unit λi hi=>?_) hp fc;have d0:=h.el.d0;by_cases e:i=ps.length
  ·refine ⟨1,0,by decide,λ_=>rfl,λc=>?_⟩;rw[if_pos e,e];grind
  ·refine ⟨dU (oX ls ps.length t) ps.length P / (d:Rat),-(dU (oX ls ps.length t) i P) / (d:Rat),?_,λz=>absurd z e,λc=>?_⟩
   ·intro z;apply h1;grind
   ·rw[if_neg e];grind
theorem Dz.sz (h:Dz ls0 n P ls ps d) (hW:1<=W) (h0:∀i,i < ls0.length->∀c,Fr 1 W (dU ls0 i c)) (hP:P<=n) (hr:min ls0.length n<=r) (r15:r<=15):(d.natAbs<=(16*W)^r)/\∀zs∈ls,∀z∈zs,z.natAbs<=(16*W)^r:=by
 obtain ⟨pm,B⟩:=h.bar;have kP:=h.el.kP;have km:=B.km;have hl:=h.len;have mono:∀{s t:Nat},s<=t->(16*W)^s<=(16*W)^t:=λhs=>ao (bQ (by decide) hW) hs
 refine ⟨ai (uW (B.dfr (W:=W) (N:=16) (by lia) h0)) (mono (by lia)),λzs hz z hz'=>?_⟩;obtain ⟨i,hi,rfl⟩:=aK hz;obtain ⟨c,hc,rfl⟩:=aK hz';have hw:=h.wide _ (aE hi)
 have ez:dU ls i c=(((ls[i])[c]:Int):Rat):=by
  unfold dU;rw[aa (l:=ls),af hi];show ((ls[i].getD c 0:Int):Rat)=_
  rw[aa,af hc];rfl
 by_cases hk:i < ps.length
 ·have:Fr 1 ((16*W)^ps.length) (dU ls i c):=by
   have hd:=B.d0;rw[B.old hk]
   have:=Be (W:=W) (N:=16) (rs:=xX pm ps.length) (vs:=KA (λj r=>dU ls0 r (ps.getD j 0)) i ps.length++(λr=>dU ls0 r c) :: qj (λj r=>dU ls0 r (ps.getD j 0)) i) (by
    have:=congrArg List.length (cw_split (v:=λj r=>dU ls0 r (ps.getD j 0)) hk);rw[av,bD,cw_len] at this;rw[av,bD]
    lia) (by
    intro v hv r hr
    have hr':∀c,Fr 1 W (dU ls0 r c):=λc=>by
     obtain ⟨t,ht,rfl⟩:=nM hr;exact h0 _ (B.rng t (by lia)) c
    rcases az.mp hv with hv | hv
    ·obtain ⟨t,_,rfl⟩:=Gz hv;exact hr' _
    ·rcases aG.mp hv with rfl | hv
     ·exact hr' _
     ·obtain ⟨t,_,rfl⟩:=cw_in hv;exact hr' _)
   rwa [rQ] at this
  rw[ez] at this;exact ai (uW this) (mono (by lia))
 ·by_cases hn:ps.length < n
  ·have:=B.fr (W:=W) (N:=16) (by lia) hW h0 (i:=i) (c:=c) (by lia);rw[ez] at this;exact ai (uW this) (mono (by lia))
  ·have:=h.el.zero i (by lia) (by lia) c (by lia);rw[ez] at this;rw[sS this];exact bL _
end
def Tp (M W:Nat) (q:Rat):Prop:=∃z:Int,q*(M:Rat)=(z:Rat)/\z.natAbs<=W
theorem Tp.of {M V W:Nat} (h:Fr M V q) (hW:V*M<=W):Tp M W q:=by obtain ⟨z,a,b⟩:=h;exact ⟨z,a,ai b hW⟩
theorem Tp.mono (h:Tp M W q) (hW:W<=W'):Tp M W' q:=by obtain ⟨z,a,b⟩:=h;exact ⟨z,a,ai b hW⟩
theorem Tp.fr (h:Tp M W q) (h0:0 < M):Fr M W q:=by obtain ⟨z,a,b⟩:=h;exact ⟨z,a,ai b (dn _ h0)⟩
def zF (rows:LR9) (n w:Nat):Prop:=∃M W:Nat,0 < M/\M<=2^4300/\1<=W/\W<=2^w/\(∀xs∈rows,∀x∈xs,Tp M W x)/\w<=4300/\min rows.length n<=15/\min rows.length n*(w+4)<=8900
def gK (xs:List Rat):List Int:=fv (xs.map nm) (gL (xs.map nm))
theorem oi:(gK xs).length=xs.length:=by unfold gK fv;rw[ag,ag]
theorem oI {xs:List Rat}:0 < gL (xs.map nm):=A5 (by decide) λb hb=>by
 obtain ⟨n,hn,rfl⟩:=aw.mp hb;obtain ⟨x,_,rfl⟩:=aw.mp hn;exact gU x
theorem MV:(((gK xs).getD c 0:Int):Rat)=xs.getD c 0*((gL (xs.map nm):Int):Rat):=by
 unfold gK fv;rw[aa,aa,aD,aD];cases e:xs[c]? with
 | none=>show ((0:Int):Rat)=0*_;rw[dw];rfl
 | some x=>exact qT (oJ (aw.mpr ⟨x,ar e,rfl⟩))
section
variable {rows:LR9} {n w i c:Nat} {xs:List Rat}
theorem yE (hi:i < rows.length):dU (rows.map gK) i c=((gL ((rows.getD i []).map nm):Int):Rat)*br rows i c:=by
 unfold dU br
 have e:(rows.map gK).getD i []=gK (rows.getD i []):=by
  rw[aa,aa,aD,af hi];rfl
 rw[e,MV,b6]
theorem qh (hw:∀xs∈rows,xs.length=n) (hc:n<=c):br rows i c=0:=by
 unfold br;by_cases h:i < rows.length
 ·have:=hw _ (getD_in (e:=[]) h);rw[aa (l:=rows.getD i []),aS (by lia)];rfl
 ·rw[aa (l:=rows),aS (by lia)];rfl
theorem zU (i:Nat) (hi:i < rows.length):eG rows.length (dU (rows.map gK)) (br rows i):=by
 have h0:((gL ((rows.getD i []).map nm):Int):Rat)≠0:=λz=>by
  have:=oI (xs:=rows.getD i []);have:=sS z
  lia
 refine eG.congr (λc=>?_) (eG.lin (1 / ((gL ((rows.getD i []).map nm):Int):Rat)) 0 (eG.row (a:=dU (rows.map gK)) hi) (eG.row (a:=dU (rows.map gK)) hi));rw[yE hi];grind
theorem zT (i:Nat) (hi:i < rows.length):eG rows.length (br rows) (dU (rows.map gK) i):=by
 refine eG.congr (λc=>?_) (eG.lin ((gL ((rows.getD i []).map nm):Int):Rat) 0 (eG.row (a:=br rows) hi) (eG.row (a:=br rows) hi));rw[yE hi];grind
theorem uy (h:Tp M W x):(nm x).2∣(M:Int):=by
 obtain ⟨z,e,b⟩:=h
 exact Fr.den (V:=z.natAbs) (M:=M) ⟨z,e,by
  rcases lW M with h | h
  ·subst h;have:(z:Rat)=0:=by rw[<- e];simp
   rw[sS this];simp
  ·exact dn _ h⟩
theorem xy (h:Tp M W x) (h0:0 < M) (hB:0 < B) (d1:(nm x).2∣B) (d2:B∣(M:Int)):∃t:Int,x*(B:Rat)=(t:Rat)/\t.natAbs<=W:=by
 obtain ⟨z,e,b⟩:=h;obtain ⟨s,es⟩:=d2;refine ⟨(nm x).1*(B / (nm x).2),(qT d1).symm,?_⟩
 have s0:0 < s:=by
  rcases Int.lt_trichotomy s 0 with h | h | h
  ·have:=ve hB h
   lia
  ·rw[h] at es;lia
  ·exact h
 have e2:(((nm x).1*(B / (nm x).2)*s:Int):Rat)=(z:Rat):=by
  rw[a7,qT d1,<- e,<- bf,es,a7];grind
 have e3:=dH.mp e2;have:((nm x).1*(B / (nm x).2)).natAbs*s.natAbs=z.natAbs:=by rw[<- eU,e3]
 have h1:1<=s.natAbs:=by lia
 have:=dn ((nm x).1*(B / (nm x).2)).natAbs h1
 lia
theorem z9 (h0:0 < M) (h:∀x∈xs,Tp M W x):gL (xs.map nm)∣(M:Int):=z7 (by decide) (Int.one_dvd _) λb hb=>by
 obtain ⟨n,hn,rfl⟩:=aw.mp hb;obtain ⟨x,hx,rfl⟩:=aw.mp hn;exact ⟨gU x,uy (h x hx)⟩
theorem zF.rowM (F:zF rows n w) (hx:xs∈rows):∃M,Il M (xs.map nm):=by
 obtain ⟨M,W,h0,h1,hW,h2,h3,h4,_⟩:=F;refine ⟨M,by lia,?_,λy hy=>?_⟩
 ·show ((M:Nat):Int).natAbs < 2^4400
  rw[c7];exact bB h1 (eS (by decide) (by decide))
 ·obtain ⟨x,hx',rfl⟩:=aw.mp hy;have t:=h3 xs hx x hx';refine ⟨gU x,uy t,?_⟩;obtain ⟨s,e,b⟩:=xy t h0 (gU x) (JR _) (uy t);have e2:(((nm x).1:Int):Rat)=(s:Rat):=by rw[<- e];exact kX x
  rw[dH.mp e2];exact bB (ai b h2) (eS (by decide) (by lia))
theorem zF.ent (F:zF rows n w):∃W:Nat,1<=W/\W<=2^w/\∀i,i < (rows.map gK).length->∀c,Fr 1 W (dU (rows.map gK) i c):=by
 obtain ⟨M,W,h0,h1,hW,h2,h3,h4,_⟩:=F;refine ⟨W,hW,h2,λi hi c=>?_⟩;rw[ag] at hi;have hx:=getD_in (e:=[]) hi;rw[yE hi];unfold br;generalize rows.getD i []=xs at hx ⊢;by_cases hc:c < xs.length
 ·have t:=h3 xs hx _ (getD_in (e:=0) hc);obtain ⟨s,e,b⟩:=xy t h0 (oI (xs:=xs)) (oJ (aw.mpr ⟨_,getD_in (e:=0) hc,rfl⟩)) (z9 h0 (h3 xs hx));rw[b6,e];exact Fr.int b
 ·rw[aa,aS (by lia)];show Fr 1 W (_*0)
  rw[cL];exact Fr.zero
end
def aO (rows:LR9) (n:Nat) (R:LR9) (ps:List Nat):Prop:=R.length=ps.length/\(∀xs∈R,xs.length=n)/\DA rows.length n (br rows) ps.length (λj=>ps.getD j 0) (br R)
structure Tt (rows:LR9) (n w:Nat) (R:LR9) (ps:List Nat) (d:Int) (ls:List (List Int)):Prop where
 rr:aO rows n R ps
 d0:d≠0
 len:ls.length=ps.length
 wide:∀zs∈ls,zs.length=n
 val:∀i c,dU ls i c=(d:Rat)*br R i c
 dsz:d.natAbs<=2^(min rows.length n*(w+4))
 zsz:∀zs∈ls,∀z∈zs,z.natAbs<=2^(min rows.length n*(w+4))
 tp:∀xs∈R,∀x∈xs,Tp d.natAbs (2^(min rows.length n*(w+4))) x
 km:ps.length<=rows.length
theorem DA.congrR {a R R2:Nat->Nat->Rat} (h:DA m n a k p R) (hr:∀i,i < k->∀c,R2 i c=R i c):DA m n a k p R2 :=
 ⟨h.inc,h.low,λi hi j hj=>by rw[hr i hi];exact h.unit i hi j hj,λi hi c hc=>by rw[hr i hi];exact h.lead i hi c hc,λi hi=>(h.span i hi).rows hr,λi hi=>(h.back i hi).congr λc=>(hr i hi c).symm⟩
theorem DA.other (h:DA m n a k p R) (s1:∀i,i < m->eG m' a' (a i)) (s2:∀i,i < m'->eG m a (a' i)):DA m' n a' k p R :=
 ⟨h.inc,h.low,h.unit,h.lead,λi hi=>eG.trans h.span (s2 i hi),λi hi=>eG.trans s1 (h.back i hi)⟩
theorem yc (h:W<=2^w):(16*W)^r<=2^(r*(w+4)):=by
 calc (16*W)^r<=(2^(w+4))^r:=kn (by rw[bg];lia) _
  _=2^(r*(w+4)):=by rw[<- xo,cw]
theorem Dz.done (h:Dz (rows.map gK) n n ls ps d) (hw:∀xs∈rows,xs.length=n) (F:zF rows n w) :
  ∃R,Tt rows n w R ps d (ls.take ps.length):=by
 obtain ⟨W,hW,W2,ent⟩:=F.ent;obtain ⟨_,_,_,_,_,_,_,_,r15,_⟩:=F;have hl:=h.len;have d0:=h.d0;have d0':(d:Rat)≠0:=λz=>d0 (sS z)
 have km:=h.el.km;have hm:(rows.map gK).length=rows.length:=ag ..;obtain ⟨s1,s2⟩:=h.sz (r:=min rows.length n) hW ent (aj _) (by rw[hm];exact aj _) r15;have s2':∀zs∈ls,∀z∈zs,z.natAbs<=2^(min rows.length n*(w+4)):=λzs hz z hz'=>ai (s2 zs hz z hz') (yc W2)
 have er:∀i c,br ((ls.take ps.length).map λzs=>zs.map λ(z:Int)=>(z:Rat) / (d:Rat)) i c=dU (ls.take ps.length) i c / (d:Rat):=λi c=>by
  unfold br dU;rw[aa (l:=List.map _ _),aD,aa (l:=List.take _ _)];cases e:(ls.take ps.length)[i]? with
  | none=>show (0:Rat)=((0:Int):Rat) / _;grind
  | some zs =>
   show (zs.map λ(z:Int)=>(z:Rat) / (d:Rat)).getD c 0=((zs.getD c 0:Int):Rat) / (d:Rat)
   rw[aa,aa,aD];cases e2:zs[c]? with
   | none=>show (0:Rat)=((0:Int):Rat) / _;grind
   | some z=>rfl
 have et:∀i,i < ps.length->∀c,dU (ls.take ps.length) i c=dU ls i c:=λi hi c=>by
  unfold dU;rw[aa (l:=List.take _ _),eQ hi,<- aa]
 have RR:=(h.el.done λi hi c hc=>uX (n:=n) (λzs hz=>by
  obtain ⟨xs,hx,rfl⟩:=aw.mp hz;rw[oi];exact hw xs hx) hc).congrR (R2:=br ((ls.take ps.length).map λzs=>zs.map λ(z:Int)=>(z:Rat) / (d:Rat))) λi hi c=>by rw[er,et i hi]
 rw[hm] at RR;refine ⟨(ls.take ps.length).map λzs=>zs.map λ(z:Int)=>(z:Rat) / (d:Rat),⟨by rw[ag,aR];lia,λxs hx=>?_,RR.other zT zU⟩,d0,by rw[aR];lia,λzs hz=>h.wide zs (bG hz),λi c=>?_,ai s1 (yc W2),λzs hz=>s2' zs (bG hz),λxs hx x hx'=>?_,by lia⟩
 ·obtain ⟨zs,hz,rfl⟩:=aw.mp hx;rw[ag];exact h.wide zs (bG hz)
 ·rw[er];grind
 ·obtain ⟨zs,hz,rfl⟩:=aw.mp hx;obtain ⟨z,hz',rfl⟩:=aw.mp hx';have b:=s2' zs (bG hz) z hz';rcases GU d with e | e
  ·refine ⟨z,?_,b⟩;have:((d.natAbs:Nat):Rat)=(d:Rat):=by rw[<- bf,<- e]
   rw[this];grind
  ·refine ⟨-z,?_,by rw[jA];exact b⟩;have:((d.natAbs:Nat):Rat)=-(d:Rat):=by rw[<- bf,<- de];congr 1;lia
   rw[this,de];grind
theorem Mm (hl:R.length=R'.length) (w1:∀xs∈R,xs.length=n) (w2:∀xs∈R',xs.length=n) (h:∀i,i < R.length->∀c,br R i c=br R' i c):R=R':=by
 apply eI hl;intro i h1 h2;apply eI (by rw[w1 _ (aE h1),w2 _ (aE h2)]);intro c h3 h4;have:=h i h1 c;unfold br at this;rw[aa (l:=R),aa (l:=R'),af h1,af h2] at this;have this:(R[i]).getD c 0=(R'[i]).getD c 0:=this;rw[aa,aa,af h3,af h4] at this;exact this
theorem aO.uniq (h:aO rows n R ps) (h':aO rows' n R' ps') (s1:∀i,i < rows.length->eG rows'.length (br rows') (br rows i)) (s2:∀i,i < rows'.length->eG rows.length (br rows) (br rows' i)):R=R'/\ps=ps':=by
 obtain ⟨l1,w1,r1⟩:=h;obtain ⟨l2,w2,r2⟩:=h';obtain ⟨ek,ep,eR⟩:=r1.uniq r2 s1 s2;refine ⟨Mm (by lia) w1 w2 λi hi c=>eR i (by lia) c,?_⟩;apply eI ek;intro j h1 h2;have:=ep j h1;rw[aa,aa,af h1,af h2] at this;exact this
theorem aO.same (h:aO rows n R ps) (h':aO rows n R' ps'):R=R'/\ps=ps':=h.uniq h' (λ_ hi=>eG.row hi) (λ_ hi=>eG.row hi)
open PySem PySem.Spec PyProof.Rows
def JK (l:Addr) (H:Hp) (zs:List Int) (v:V):Prop:=∃q,v=V.ref q/\q≠l/\H q=some (.lst (zs.map V.int))
def sX (l:Addr) (H:Hp) (p:Addr) (ls:List (List Int)):Prop:=p≠l/\∃xs,H p=some (.lst xs)/\Paired (JK l H) ls xs
theorem JK.same (h:JK l H zs v) (e:aH H H'):JK l H' zs v:=by obtain ⟨q,a,n,b⟩:=h;exact ⟨q,a,n,e _ _ b⟩
theorem JK.upd {l:Addr} {H:Hp} {zs:List Int} {v:V} {o:HO} (h:JK l H zs v):JK l (upd H l o) zs v:=by obtain ⟨q,a,n,b⟩:=h;exact ⟨q,a,n,by rw[bN n];exact b⟩
theorem sX.upd {l:Addr} {H:Hp} {p:Addr} {ls:List (List Int)} {o:HO} (h:sX l H p ls):sX l (upd H l o) p ls:=by obtain ⟨n,xs,a,b⟩:=h;exact ⟨n,xs,by rw[bN n];exact a,Paired.imp' (λ_ _ z=>z.upd) b⟩
theorem ne_old {H:Hp} (h:H l≠none) (n:H r=none):r≠l:=λz=>h (by rw[<- z];exact n)
theorem jH {α β:Type} {F:α->β->Prop}:∀{l1:List α} {l2:List β} (_:Paired F l1 l2) (i:Nat) {x:α} {y:β},F x y->Paired F (l1.set i x) (l2.set i y)
 | _,_,.nil,_,_,_,_=>.nil
 | _,_,.cons _ r,0,_,_,h=>.cons h r
 | _,_,.cons a r,i+1,_,_,h=>.cons a (jH r i h)
theorem Pf (h:ls[i]?=some zs):dU ls i c=((zs.getD c 0:Int):Rat):=by
 unfold dU;rw[aa (l:=ls),h];rfl
theorem Tb:((z:Int):Rat)≠0↔z≠0:=⟨λh e=>h (by rw[e];rfl),λh e=>h (sS e)⟩
theorem Fi {zs:List Int} (h:c < zs.length):Ii (zs.map V.int) (c:Int)=some (V.int (zs.getD c 0)):=dG (by rw[aD,aa,af h];rfl)
inductive CG (vs:List V) (H:Hp) (Q:VK) (E9:XK):Prop
 | mk (l p:Addr) (ls:List (List Int)) (b c:Nat):vs=[.ref p,.int b,.int c]->sX l H p ls->ls.length<=1000->b<=1000->(∀zs∈ls,c < zs.length)->(∀t:Nat,b<=t->t < ls.length->dU ls t c≠0->Q (.int t) H)->((∀t,b<=t->t < ls.length->dU ls t c=0)->Q .non H)->CG  vs H Q E9
inductive yJ (vs:List V) (H:Hp) (Q:VK) (E9:XK):Prop
 | mk (l p:Addr) (ls:List (List Int)) (t k:Nat):vs=[.ref p,.int t,.int k]->H l≠none->sX l H p ls->ls.length<=1000->t < ls.length->k < ls.length->(∀r H',H r=none->aH H H'->sX l H' r (oX ls k t)->Q (.ref r) H')->yJ  vs H Q E9
inductive CH (vs:List V) (H:Hp) (Q:VK) (E9:XK):Prop
 | mk (l p:Addr) (ls:List (List Int)) (k c n:Nat) (b:Int):vs=[.ref p,.int k,.int c,.int b]->H l≠none->sX l H p ls->ls.length<=1000->k < ls.length->(∀zs∈ls,zs.length=n)->n<=1000->c < n->b≠0->Sz 8999 b->(∀zs∈ls,∀z∈zs,Sz 8999 z)->(∀r H',H r=none->aH H H'->sX l H' r (GB ls k c b)->Q (.ref r) H')->CH  vs H Q E9
theorem Ls (K:FG9) {X:Cx} {a b:Expr} {ta:TA} {p pos tpos:Pos} {elts:List Expr} {kk:Nat} (hg:Gl X "zip") (hm:X.mg "zip"=none) (ha:PA X [a,b] ta) (hK:X.K=K:=by rfl) (hs:starEach [a,b] X.env=[(false,eval a X.env),(false,eval b X.env)]:=by rfl) (hs2:starEach [b] X.env=[(false,eval b X.env)]:=by rfl) :
  PI X (.Tuple elts kk tpos) (.Call (.Name "zip" p) [a,b] [] pos) (QG K ta):=by subst hK;exact zY hg hm ha hs hs2
def c4 (ps:List Nat):List V:=ps.map λ(j:Nat)=>V.int (j:Int)
inductive Cu (K:FG9) (vs:List V) (H:Hp) (Q:VK) (E9:XK):Prop
 | mk (p:Addr) (n w:Nat) (H0:Hp) (rows:LR9):vs=[.ref p,.int n]->bo K H0 H p rows->rows.length<=100->n<=100->(∀xs∈rows,xs.length=n)->zF rows n w->(∀t lp qp R ps d ls H',H' t=some (.tup [.ref lp,.ref qp])->H' qp=some (.lst (c4 ps))->sX qp H' lp ls->aH H H'->Tt rows n w R ps d ls->Q (.ref t) H')->Cu K vs H Q E9
inductive yH (K:FG9) (vs:List V) (H:Hp) (Q:VK) (E9:XK):Prop
 | mk (p:Addr) (n w:Nat) (H0:Hp) (rows:LR9):vs=[.ref p,.int n]->bo K H0 H p rows->rows.length<=100->n<=100->(∀xs∈rows,xs.length=n)->zF rows n w->(∀r R ps M H',H r=none->aH H H'->bo K H H' r R->aO rows n R ps->ps.length<=rows.length->0 < M->M<=2^(min rows.length n*(w+4))->(∀xs∈R,∀x∈xs,Tp M (2^(min rows.length n*(w+4))) x)->Q (.ref r) H')->yH K vs H Q E9
def zR (rows:LR9) (i:Nat):Rat:=((gL ((rows.getD i []).map nm):Int):Rat)
theorem wI:zR rows i≠0:=λz=>by
 have:=oI (xs:=rows.getD i []);have:=sS z
 lia
structure Aa (rows:LR9) (n P:Nat) (rs:LR9) (ps:List Nat):Prop where
 len:rs.length=rows.length
 wide:∀xs∈rs,xs.length=n
 ex:∃pm l d,xu (dU (rows.map gK)) rows.length ps.length pm (λj=>ps.getD j 0) l d/\jR (dU (rows.map gK)) rows.length ps.length P (λj=>ps.getD j 0) l d/\∀i,i < rows.length->∀c,br rs i c=l i c / (d*if i < ps.length then 1 else zR rows (pm i))
section
variable {rows rs rs':LR9} {n P w a:Nat} {ps:List Nat}
theorem LQ {k i j:Nat} (h:d≠0):d*(if i < k then 1 else zR rows j)≠0:=by
 have:=wI (rows:=rows) (i:=j)
 split <;> grind
theorem Aa.start (hw:∀xs∈rows,xs.length=n):Aa rows n 0 rows []:=⟨rfl,hw,λi=>i,dU (rows.map gK),1,xu.start λ_ _=>rfl,jR.start,λi hi c=>by
 rw[yE hi,if_neg (by show ¬i < 0;lia)];have:=wI (rows:=rows) (i:=i);show br rows i c=zR rows i*br rows i c / (1*zR rows i)
 grind⟩
theorem Aa.skip (h:Aa rows n P rs ps) (hz:∀i,ps.length<=i->i < rs.length->br rs i P=0):Aa rows n (P+1) rs ps:=by
 obtain ⟨len,wide,pm,l,d,B,E,v⟩:=h;refine ⟨len,wide,pm,l,d,B,E.skip λi h1 h2=>?_,v⟩;have:=v i h2 P;rw[hz i h1 (by lia)] at this;have ne:=LQ (rows:=rows) (i:=i) (j:=pm i) (k:=ps.length) B.d0;generalize d*(if i < ps.length then 1 else zR rows (pm i))=D at this ne;grind
theorem Aa.km (h:Aa rows n P rs ps):ps.length<=rows.length/\ps.length<=P:=by obtain ⟨_,_,_,_,_,_,E,_⟩:=h;exact ⟨E.km,E.kP⟩
theorem Aa.step (h:Aa rows n P rs ps) (ht:ps.length<=t) (ht2:t < rs.length) (hne:br rs t P≠0) (l':rs'.length=rows.length) (w':∀xs∈rs',xs.length=n)
  (hv:∀i,i < rows.length->∀c,br rs' i c=if i=ps.length then 1 / br rs t P*br rs t c else br rs (jx ps.length t i) c - br rs (jx ps.length t i) P*(1 / br rs t P*br rs t c)):Aa rows n (P+1) rs' (ps++[P]):=by
 obtain ⟨len,wide,pm,l,d,B,E,v⟩:=h;have hk:ps.length < rows.length:=by lia
 have B1:=B.swap ht (by lia);have E1:=E.swap ht (by lia);have d0:=B.d0
 have v1:∀i,i < rows.length->∀c,br rs (jx ps.length t i) c=l (jx ps.length t i) c / (d*if i < ps.length then 1 else zR rows (pm (jx ps.length t i))):=λi hi c=>by
  rw[v _ (tz hk (by lia) hi) c];by_cases z:i < ps.length
  ·rw[uA ht z,if_pos z]
  ·rw[if_neg z,if_neg (by have:=vf ht (show ps.length<=i by lia);lia)]
 have sk:jx ps.length t ps.length=t:=by unfold jx;rw[if_pos rfl]
 have vt:∀c,br rs t c=l (jx ps.length t ps.length) c / (d*zR rows (pm (jx ps.length t ps.length))):=λc=>by
  have:=v1 ps.length hk c;rw[if_neg (by lia),sk] at this;rw[sk];exact this
 have bt:=wI (rows:=rows) (i:=pm (jx ps.length t ps.length));have h1:l (jx ps.length t ps.length) P≠0:=λz=>hne (by rw[vt P,z];grind)
 have B2:=B1.step (c0:=P) hk h1;have lp:(ps++[P]).length=ps.length+1:=by rw[av];rfl
 have hp:∀j,j < ps.length+1->(ps++[P]).getD j 0=if j=ps.length then P else ps.getD j 0:=λj hj=>getD_snoc hj
 refine ⟨l',w',λi=>pm (jx ps.length t i),_,_,by rw[lp];exact B2.congr (l2:=λi c=>if i=ps.length then l (jx ps.length t ps.length) c else (l (jx ps.length t ps.length) P*l (jx ps.length t i) c - l (jx ps.length t i) P*l (jx ps.length t ps.length) c) / d) hp (λ_ _ _=>rfl),?_,λi hi c=>?_⟩
 ·rw[lp];refine jR.congr (E1.step (d':=l (jx ps.length t ps.length) P) (l':=λi c=>if i=ps.length then l (jx ps.length t ps.length) c else (l (jx ps.length t ps.length) P*l (jx ps.length t i) c - l (jx ps.length t i) P*l (jx ps.length t ps.length) c) / d) hk h1 B2.unit λi hi=>?_) hp (λ_ _ _=>rfl);by_cases e:i=ps.length
  ·refine ⟨1,0,by decide,λ_=>rfl,λc=>?_⟩;rw[if_pos e,e];grind
  ·refine ⟨l (jx ps.length t ps.length) P / d,-(l (jx ps.length t i) P) / d,?_,λz=>absurd z e,λc=>?_⟩
   ·intro z;apply h1;grind
   ·rw[if_neg e];grind
 ·rw[hv i hi c,lp,vt c,vt P];by_cases e:i=ps.length
  ·rw[if_pos e,if_pos e,if_pos (by lia)];grind
  ·rw[if_neg e,if_neg e,v1 i hi c,v1 i hi P];have ne:=LQ (rows:=rows) (i:=i) (j:=pm (jx ps.length t i)) (k:=ps.length) d0;by_cases z:i < ps.length
   ·rw[if_pos z,if_pos (by lia)];grind
   ·have bi:=wI (rows:=rows) (i:=pm (jx ps.length t i));rw[if_neg z,if_neg (by lia)];grind
theorem Aa.done (h:Aa rows n n rs ps) (hw:∀xs∈rows,xs.length=n):aO rows n (rs.take ps.length) ps:=by
 obtain ⟨len,wide,pm,l,d,B,E,v⟩:=h;have km:=E.km;refine ⟨by rw[aR];lia,λxs hx=>wide xs (bG hx),DA.other ((E.done λi hi c hc=>?_).congrR λi hi c=>?_) zT zU⟩
 ·exact uX (n:=n) (λzs hz=>by
   obtain ⟨xs,hx,rfl⟩:=aw.mp hz;rw[oi];exact hw xs hx) hc
 ·have e:br (rs.take ps.length) i c=br rs i c:=by
   unfold br;rw[aa (l:=List.take _ _),eQ hi,<- aa]
  rw[e,v i (by lia) c,if_pos hi,qO]
def Ov (rows:LR9) (n w a:Nat):Prop:=∃M W:Nat,0 < M/\M<=2^a/\1<=W/\W<=2^w/\(∀xs∈rows,∀x∈xs,Tp M W x)/\min rows.length n<=15/\2*(min rows.length n*(w+4)+a)<=3990
theorem Ov.ent (F:Ov rows n w a):∃W:Nat,1<=W/\W<=2^w/\∀i,i < rows.length->∀c,Fr 1 W (dU (rows.map gK) i c):=by
 obtain ⟨M,W,h0,h1,hW,h2,h3,_⟩:=F;refine ⟨W,hW,h2,λi hi c=>?_⟩;have hx:=getD_in (e:=[]) hi;rw[yE hi];unfold br;generalize rows.getD i []=xs at hx ⊢;by_cases hc:c < xs.length
 ·have t:=h3 xs hx _ (getD_in (e:=0) hc);obtain ⟨s,e,b⟩:=xy t h0 (oI (xs:=xs)) (oJ (aw.mpr ⟨_,getD_in (e:=0) hc,rfl⟩)) (z9 h0 (h3 xs hx));rw[b6,e];exact Fr.int b
 ·rw[aa,aS (by lia)];show Fr 1 W (_*0)
  rw[cL];exact Fr.zero
theorem Ov.bot (F:Ov rows n w a) (hi:i < rows.length):∃b:Nat,0 < b/\b<=2^a/\zR rows i=(b:Rat):=by
 obtain ⟨M,W,h0,h1,hW,h2,h3,_⟩:=F;have hx:=getD_in (e:=[]) hi;have p:=oI (xs:=rows.getD i []);have dv:=z9 h0 (h3 _ hx);refine ⟨(gL ((rows.getD i []).map nm)).natAbs,by lia,ai (gM h0 ?_) h1,?_⟩
 ·have:=eF.mpr dv;rwa [c7] at this
 ·unfold zR;rw[<- bf];congr 1
  lia
theorem Pn {z y:Int} (hl:l=(z:Rat)) (hD:D=(y:Rat)) (h0:D≠0) (hz:z.natAbs<=W):Tp y.natAbs W (l / D):=by
 rcases GU y with e | e
 ·refine ⟨z,?_,hz⟩;have:((y.natAbs:Nat):Rat)=D:=by rw[<- bf,<- e,hD]
  rw[this,hl];grind
 ·refine ⟨-z,?_,by rw[jA];exact hz⟩;have:((y.natAbs:Nat):Rat)=-D:=by rw[<- bf,hD,<- de];congr 1;lia
  rw[this,hl,de];grind
theorem Aa.sz (h:Aa rows n P rs ps) (F:Ov rows n w a) (hP:P<=n) (hi:i < rows.length):∃D:Nat,0 < D/\D<=2^(min rows.length n*(w+4)+a)/\∀c,Tp D (2^(min rows.length n*(w+4))) (br rs i c):=by
 obtain ⟨len,wide,pm,l,d,B,E,v⟩:=h;obtain ⟨W,hW,W2,ent⟩:=F.ent;obtain ⟨_,_,_,_,_,_,_,r15,_⟩:=id F;have kP:=E.kP;have km:=B.km;have mono:∀{s t:Nat},s<=t->(16*W)^s<=(16*W)^t:=λhs=>ao (bQ (by decide) hW) hs
 obtain ⟨y,ey⟩:=vT (B.dfr (W:=W) (N:=16) (by lia) ent);have hy:=B.dfr (W:=W) (N:=16) (by lia) ent;rw[ey] at hy;have yb:y.natAbs<=2^(min rows.length n*(w+4)):=ai (uW hy) (ai (mono (show ps.length<=min rows.length n by lia)) (yc W2));have y0:y≠0:=λz=>B.d0 (by rw[ey,z];rfl)
 have lb:∀c,∃z:Int,l i c=(z:Rat)/\z.natAbs<=2^(min rows.length n*(w+4)):=λc=>by
  by_cases hk:i < ps.length
  ·have f:Fr 1 ((16*W)^ps.length) (l i c):=by
    rw[B.old hk]
    have:=Be (W:=W) (N:=16) (rs:=xX pm ps.length) (vs:=KA (λj r=>dU (rows.map gK) r (ps.getD j 0)) i ps.length++(λr=>dU (rows.map gK) r c) :: qj (λj r=>dU (rows.map gK) r (ps.getD j 0)) i) (by
     have:=congrArg List.length (cw_split (v:=λj r=>dU (rows.map gK) r (ps.getD j 0)) hk);rw[av,bD,cw_len] at this;rw[av,bD]
     lia) (by
     intro v hv r hr
     have hr':∀c,Fr 1 W (dU (rows.map gK) r c):=λc=>by
      obtain ⟨t,ht,rfl⟩:=nM hr;exact ent _ (B.rng t (by lia)) c
     rcases az.mp hv with hv | hv
     ·obtain ⟨t,_,rfl⟩:=Gz hv;exact hr' _
     ·rcases aG.mp hv with rfl | hv
      ·exact hr' _
      ·obtain ⟨t,_,rfl⟩:=cw_in hv;exact hr' _)
    rwa [rQ] at this
   obtain ⟨z,ez⟩:=vT f;rw[ez] at f;exact ⟨z,ez,ai (uW f) (ai (mono (by lia)) (yc W2))⟩
  ·by_cases hn:ps.length < n
   ·have f:=B.fr (W:=W) (N:=16) (by lia) hW ent (i:=i) (c:=c) hi;obtain ⟨z,ez⟩:=vT f;rw[ez] at f;exact ⟨z,ez,ai (uW f) (ai (mono (by lia)) (yc W2))⟩
   ·refine ⟨0,?_,bL _⟩;by_cases hc:c < n
    ·rw[E.zero i (by lia) hi c (by lia)];rfl
    ·have:=v i hi c;rw[qh wide (by lia)] at this;have ne:=LQ (rows:=rows) (i:=i) (j:=pm i) (k:=ps.length) B.d0;generalize d*(if i < ps.length then 1 else zR rows (pm i))=D at this ne;show l i c=0
     grind
 obtain ⟨b,b0,b1,eb⟩:∃b:Nat,0 < b/\b<=2^a/\(if i < ps.length then 1 else zR rows (pm i))=(b:Rat):=by
  by_cases hk:i < ps.length
  ·exact ⟨1,by decide,bI,by rw[if_pos hk];rfl⟩
  ·obtain ⟨b,x1,x2,x3⟩:=F.bot (B.rng i hi);exact ⟨b,x1,x2,by rw[if_neg hk,x3]⟩
 have eD:d*(b:Rat)=((y*b:Int):Rat):=by rw[a7,ey,bf]
 refine ⟨(y*b).natAbs,?_,?_,λc=>?_⟩
 ·rw[eU,c7];exact bQ (by lia) b0
 ·rw[eU,c7,bg];exact aJ yb b1
 ·obtain ⟨z,ez,bz⟩:=lb c;rw[v i hi c,eb];refine Pn ez eD (λq=>?_) bz;rw[eD] at q;have:=sS q;rcases Int.mul_eq_zero.mp this with q | q
  ·exact y0 q
  ·lia
end
theorem xB (h:Tp M W x) (h0:0 < M) (h1:M<=2^3995) (h2:W<=2^3995):mQ x:=by
 refine ⟨?_,?_⟩
 ·obtain ⟨s,e,b⟩:=xy h h0 (gU x) (JR _) (uy h);have e2:(((nm x).1:Int):Rat)=(s:Rat):=by rw[<- e];exact kX x
  rw[dH.mp e2];exact bB (ai b h2) (eS (by decide) (by decide))
 ·have:=gM h0 (mN.mp (uy h));show ((x.den:Nat):Int).natAbs < _
  rw[c7];exact bB (ai this h1) (eS (by decide) (by decide))
theorem Tp.mul (h:Tp M W x) (h':Tp M' W' y):Tp (M*M') (W*W') (x*y):=by
 obtain ⟨z,e,b⟩:=h;obtain ⟨z',e',b'⟩:=h';refine ⟨z*z',?_,by rw[eU];exact aJ b b'⟩;rw[a7,<- e,<- e',BM];grind
theorem MY (h:mQ x) (h0:x≠0):mQ (1 / x):=by
 have n0:x.num≠0:=λz=>h0 (Rat.num_eq_zero.mp z)
 have e:=kX x;have e1:(1 / x)*(x.num:Rat)=(x.den:Rat):=by rw[e];grind
 have t:Tp x.num.natAbs x.den (1 / x):=by
  rcases GU x.num with q | q
  ·refine ⟨x.den,?_,by simp⟩;have:((x.num.natAbs:Nat):Rat)=(x.num:Rat):=by rw[<- bf,<- q]
   rw[this,e1,bf]
  ·refine ⟨-(x.den:Int),?_,by simp⟩;have:((x.num.natAbs:Nat):Rat)=-(x.num:Rat):=by rw[<- bf,<- de];congr 1;lia
   rw[this,de,bf,<- e1];grind
 obtain ⟨h1,h2⟩:=h;have h1:x.num.natAbs < 2^4000:=h1;have h2:((x.den:Nat):Int).natAbs < 2^4000:=h2;rw[c7] at h2;refine ⟨?_,?_⟩
 ·obtain ⟨s,e,b⟩:=xy t (by lia) (gU (1 / x)) (JR _) (uy t);have e2:(((nm (1 / x)).1:Int):Rat)=(s:Rat):=by rw[<- e];exact kX (1 / x)
  rw[dH.mp e2];exact bB b h2
 ·have:=gM (show 0 < x.num.natAbs by lia) (mN.mp (uy t));show (((1 / x).den:Nat):Int).natAbs < _
  rw[c7];exact bB this h1
inductive Aj (K:FG9) (vs:List V) (H:Hp) (Q:VK) (E9:XK):Prop
 | mk (u v:V) (x y:Rat):vs=[u,v]->cB K H x u->cB K H y v->mQ x->mQ y->y≠0->(∀r H',aH H H'->cB K H' (x / y) (.ref r)->Q (.ref r) H')->Aj K vs H Q E9
theorem FY {K:FG9} (h:Aj K vs H Q E):Nd K vs H Q E:=by
 obtain ⟨u,v,x,y,rfl,⟨p,rfl,hp⟩,⟨q,rfl,hq⟩,⟨s1,s2⟩,⟨s3,s4⟩,y0,k⟩:=h;have n0:(nm y).1≠0:=λz=>y0 (Rat.num_eq_zero.mp z)
 have px:=gU x;have py:=gU y;have e1:=pP x;have e2:=pP y;have dx:(((nm x).2:Int):Rat)≠0:=λz=>by have:=sS z;lia
 have dy:(((nm y).2:Int):Rat)≠0:=λz=>by have:=sS z;lia
 refine ⟨p,q,_,_,_,_,rfl,hp,hq,px,py,n0,s1,s2,s3,s4,λr H' s g=>k r H' s (cB.mk g ?_)⟩;by_cases hc:(nm y).1 < 0
 ·rw[if_pos hc,if_pos hc];refine p9 (by have:=ve px hc;lia) ?_;rw[BN,BN,a7,a7,e1,e2];show x / y*(((0:Int):Rat) - _)=((0:Int):Rat) - _
  grind
 ·rw[if_neg hc,if_neg hc];refine p9 (iC px (by lia)) ?_;rw[a7,a7,e1,e2];grind
inductive CD (K:FG9) (vs:List V) (H:Hp) (Q:VK) (E9:XK):Prop
 | mk (p q:Addr) (xs ys:List Rat):vs=[.ref p,.ref q]->dI K H p xs->dI K H q ys->ys.length=xs.length->xs.length<=1000->(∀x∈xs,mQ x)->(∀y∈ys,mQ y)->(∀r H',H r=none->aH H H'->dI K H' r (List.zipWith (λx y=>x - y) xs ys)->Q (.ref r) H')->CD K vs H Q E9
theorem QK {xs ys:List Rat} (h:xs.length=ys.length):(List.zipWith (λx y=>x - y) xs ys).getD c 0=xs.getD c 0 - ys.getD c 0:=by
 rw[aa,aa,aa,cG];by_cases hc:c < xs.length
 ·rw[af hc,af (show c < ys.length by lia)];rfl
 ·rw[aS (by lia),aS (by lia)];show (0:Rat)=0 - 0
  grind
theorem Mg {xs:List Rat}:(xs.map λy=>q*y).getD c 0=q*xs.getD c 0:=by
 rw[aa,aa,aD];cases xs[c]? with
 | none=>show (0:Rat)=q*0;grind
 | some x=>rfl
inductive FD (K:FG9) (vs:List V) (H:Hp) (Q:VK) (E9:XK):Prop
 | mk (p:Addr) (n:Nat) (H0:Hp) (R:LR9) (ps:List Nat):vs=[.ref p]->bo K H0 H p R->R.length<=100->n<=100->(∃rows,aO rows n R ps)->(∀r H',H r=none->aH H H'->H' r=some (.lst (c4 ps))->Q (.ref r) H')->FD K vs H Q E9
theorem GY {xs ys:List Rat} (h:ys.length=xs.length):List.zipWith (λx y=>x - y) xs ys=(List.range xs.length).map λi=>xs.getD i 0 - ys.getD i 0:=by
 apply jw;intro i;rw[cG,aD];by_cases hi:i < xs.length
 ·rw[cR hi,af hi,af (show i < ys.length by lia)];simp [aa,af hi,af (show i < ys.length by lia)]
 ·rw[aS (show (List.range xs.length).length<=i by simp;lia),aS (show xs.length<=i by lia)];rfl
theorem yw {K:FG9} {rows:LR9} (pr:Paired (cI K H0 H) rows vs) (s:aH H H') (n:H q=none) (g:H' q=some (.lst vs)):bo K H0 H' q rows :=
 ⟨vs,g,Paired.imp' (λ_ _ z=>z.same s) pr,λz=>by
  obtain ⟨_,_,q',e,_,_,g',_⟩:=dd pr z;cases e;rw[n] at g';cases g'⟩
theorem MX:mQ 1:=xB (M:=1) (W:=1) ⟨1,by simp,by decide⟩ (by decide) bI bI
theorem aO.le (h:aO rows n R ps):ps.length<=n:=by
 obtain ⟨_,_,rr⟩:=h;rcases bV n ps.length with z | z
 ·have inc:∀j,j < ps.length->j<=ps.getD j 0:=by
   intro j
   induction j with
   | zero=>intro _;exact bL _
   | succ j ih =>
    intro hj;have:=ih (by lia);have:=rr.inc j (j+1) (by lia) hj
    lia
  have h1:=inc (ps.length - 1) (by lia);have h2:=rr.low (ps.length - 1) (by lia)
  lia
 ·exact z
theorem Tp.zero:Tp M W 0:=⟨0,by simp,by simp⟩
theorem Tp.add (h:Tp M W x) (h':Tp M W' y):Tp M (W+W') (x+y):=by
 obtain ⟨z,e,b⟩:=h;obtain ⟨z',e',b'⟩:=h';refine ⟨z+z',?_,ai (Int.natAbs_add_le _ _) (Nat.add_le_add b b')⟩;rw[BO,<- e,<- e'];grind
theorem Tp.sum {M W:Nat} {f:Nat->Rat}:∀{k:Nat},(∀j,j < k->Tp M W (f j))->Tp M (k*W) (be k f)
 | 0,_=>Tp.zero
 | k+1,h=>by
  have:=(Tp.sum (k:=k) λj hj=>h j (by lia)).add (h k (by lia));exact this.mono (by rw[gH];exact aj _)
theorem DN {xs:List Rat} (h:∀x∈xs,Tp M W x) (c:Nat):Tp M W (xs.getD c 0):=by
 by_cases hc:c < xs.length
 ·exact h _ (getD_in hc)
 ·rw[aa,aS (by lia)];exact Tp.zero
theorem Oz (h:∀xs∈R,∀x∈xs,Tp M W x) (i c:Nat):Tp M W (br R i c):=by
 unfold br;by_cases hi:i < R.length
 ·exact DN (h _ (getD_in hi)) c
 ·rw[aa (l:=R),aS (by lia)];exact Tp.zero
theorem Ku {K:FG9} {g:TG} (Pv:Nat->List V->Hp->Prop) (hz:xs.length<=sizeLine) (h0:Pv 0 [] H) (hl:∀i ys H,i<=xs.length->Pv i ys H->bU K H l xs)
  (hs:∀i x ys H p,xs[i]?=some x->ys.length<=i->Pv i ys H->H p=none->qV σ₀ g tf te (.ref p) (upd H p (.tup [.int i,x])) (λy H'=>Pv (i+1) (ys++[y]) H') (λH'=>Pv (i+1) ys H'))
  (hd:∀ys H,ys.length<=xs.length->Pv xs.length ys H->∀p,H p=none->Q (.ref p) (upd H p (.lst ys))):sY (Q0 K l) σ₀ g tf te Q H:=by
 refine ⟨λi m ys H=>m=xs.length - i/\i<=xs.length/\ys.length<=i/\Pv i ys H,⟨xs.length,by simp,bL _,bL _,h0⟩,?_⟩;rintro i m ys H ⟨rfl,hi,hy,p⟩;have q1:=hl i ys H hi p;by_cases hlt:i < xs.length
 ·refine .inr ⟨⟨xs,xs[i],q1,by simp [hlt]⟩,by lia,λy H'=>Pv (i+1) (ys++[y]) H',λH'=>Pv (i+1) ys H',λy H' p'=>⟨xs.length - (i+1),by lia,rfl,hlt,by rw[av,bH];lia,p'⟩,λH' p'=>⟨xs.length - (i+1),by lia,rfl,hlt,by lia,p'⟩,λx H' y=>?_⟩;obtain ⟨r,x',rfl,hr,rfl,e1⟩:=y;exact hs i x' ys _ r (e1 xs q1) hy p hr
 ·have e:i=xs.length:=by lia
  subst e;exact .inl ⟨⟨xs,q1,aj _⟩,by lia,hd ys H hy p⟩
section
variable {X:Cx}
theorem Kv (hc:X.calm=true):oP X (.builtin "min") (λxs H Q=>∃(p:Addr) (ns:List Int),xs=[.ref p]/\bU X.K H p (ns.map V.int)/\0 < ns.length/\∀M,M∈ns->(∀a,a∈ns->M<=a)->Q (.int M) H):=by
 intro pins s σ H xs us Q I r h;obtain ⟨p,ns,rfl,hp,hne,q⟩:=h;obtain ⟨u,rfl,ru⟩:=vals1 r;cases ru;obtain ⟨its,r2,pl,_⟩:=I.list hp;have hi:=intsAre_of r2;have hl:=pl.isList;obtain ⟨xs,e⟩:=hi.allInts.items
 have hns:ns=xs.toList.map (·.1):=by
  rw[<- hi.numsOf,<- nums_intItems,<- e]
 have hsz:0 < xs.size:=by
  have h3:=hne;rw[hns,ag,Array.length_toList] at h3;exact h3
 rw[e] at hl;refine min_intList (I.ok.hd hc) hl hsz λv h' tk hv hk=>?_
 obtain ⟨t,rfl⟩:=intItems_at hv;obtain ⟨h1,h2⟩:=argBest_lt (numAt xs) (xs.size - 1);refine ⟨.int _,H,I.kept hk,⟨_,rfl⟩,q _ ?_ λa ha=>?_⟩
 ·rw[hns,numAt_eq];exact getD_in (by rw[ag,Array.length_toList];lia)
 ·rw[hns] at ha;obtain ⟨j,hj,rfl⟩:=mem_getD ha;rw[ag,Array.length_toList] at hj;rw[<- numAt_eq];exact h2 j (by lia)
theorem BZ (K:FG9) (hK:X.K=K):yD X (compareOp .NotIn) (rIn K true):=by subst hK;exact Es
end
theorem L5 {j:Nat}:S4 (.int (j:Int)) (c4 ps)=decide (j∈ps):=by
 unfold S4 c4;rw[List.any_map,lI,List.any_eq_true,decide_eq_true_iff];constructor
 ·rintro ⟨x,hx,e⟩;have e:((x:Int) == (j:Int))=true:=e;have:(x:Int)=j:=by simpa using e
  have:x=j:=by lia
  rw[<- this];exact hx
 ·intro h;exact ⟨j,h,by show ((j:Int) == (j:Int))=true;simp⟩
theorem Kh:(c4 ps).all vV=true:=by
 unfold c4;rw[List.all_map];exact oS.mpr λ_ _=>rfl
theorem oz:(c4 ps).length=ps.length:=ag ..
def sE (ps:List Nat):List Int:=ps.map λ(j:Nat)=>(j:Int)
theorem CP:c4 ps=(sE ps).map V.int:=by unfold c4 sE;rw[fD];rfl
theorem paired_ints {K:FG9} {H:Hp}:∀{zs:List Int},Paired (λa x=>Kl.R K H x a) zs (zs.map V.int)
 | []=>.nil
 | z :: zs=>.cons rfl paired_ints
theorem tm {K:FG9} (h:H p=some (.lst (c4 ps))):(Kk Kl).R K H (.ref p) (sE ps):=⟨p,c4 ps,rfl,bU.of h,by rw[CP];exact paired_ints⟩
theorem EF {i:Nat} (h:(c4 ps)[i]?=some v):∃j,ps[i]?=some j/\v=V.int (j:Int):=by
 unfold c4 at h;rw[aD] at h;cases e:ps[i]? with
 | none=>rw[e] at h;cases h
 | some x=>rw[e] at h;exact ⟨x,rfl,(cv h).symm⟩
def F2 (xs:List Rat) (i:Nat):List Nat:=(List.range i).filter λc=>decide (xs.getD c 0≠0)
theorem z6:F2 xs (i+1)=if xs.getD i 0≠0 then F2 xs i++[i] else F2 xs i:=by
 unfold F2;rw[lF,List.filter_append];by_cases h:xs.getD i 0≠0
 ·rw[if_pos h,SX (by simpa using h)];rfl
 ·rw[if_neg h,SY (by simpa using h)];simp
def di (ps:List Nat) (i:Nat):List Nat:=(List.range i).filter λc=>decide (c∉ps)
theorem A9:di ps (i+1)=if i∉ps then di ps i++[i] else di ps i:=by
 unfold di;rw[lF,List.filter_append];by_cases h:i∉ps
 ·rw[if_pos h,SX (by simpa using h)];rfl
 ·rw[if_neg h,SY (by simpa using h)];simp
theorem ET:(di ps i).length<=i:=by
 unfold di;exact ai (List.length_filter_le ..) (by rw[bX];exact aj _)
inductive FC (K:FG9) (vs:List V) (H:Hp) (Q:VK) (E9:XK):Prop
 | mk (p:Addr) (xs:List Rat) (j:Nat):vs=[.ref p]->dI K H p xs->xs.length<=1000->j < xs.length->xs.getD j 0≠0->(∀c,c < j->xs.getD c 0=0)->(∀H',aH H H'->Q (.int (j:Int)) H')->FC K vs H Q E9
inductive FG (K:FG9) (vs:List V) (H:Hp) (Q:VK) (E9:XK):Prop
 | mk (p:Addr) (n:Nat) (H0:Hp) (R:LR9) (ps:List Nat):vs=[.ref p,.int n]->bo K H0 H p R->R.length<=100->n<=100->(∃rows,aO rows n R ps)->(∀r H',H r=none->aH H H'->H' r=some (.lst (c4 (di ps n)))->Q (.ref r) H')->FG K vs H Q E9
def Je (R:LR9) (ps:List Nat) (n at_ j:Nat):List Rat:=(List.range n).map λc=>if c=at_ then 1 else be j λi=>if ps.getD i 0=c then -(br R i at_) else 0
def so (R:LR9) (ps:List Nat) (n at_:Nat):List Rat:=Je R ps n at_ ps.length
def bA (R:LR9) (ps:List Nat) (n:Nat):LR9:=(di ps n).map (so R ps n)
section
variable {R rows:LR9} {ps:List Nat} {n a j:Nat}
theorem jL:(Je R ps n a j).length=n:=by unfold Je;rw[ag,bX]
theorem LH (h:c < n):(Je R ps n a j).getD c 0=if c=a then 1 else be j λi=>if ps.getD i 0=c then -(br R i a) else 0:=by
 unfold Je;rw[aa,aD,cR h];rfl
theorem NW:Je R ps n a 0=kq n a:=by
 unfold Je kq;refine sZ λc _=>?_
 by_cases e:c=a
 ·subst e;simp
 ·rw[if_neg e];show (0:Rat)=_
  have:¬(c:Int)=(a:Int):=by lia
  simp [this]
theorem NZ (RR:aO rows n R ps) (hj:j < ps.length) (ha:a∉ps):(Je R ps n a j).set (ps.getD j 0) (-(br R j a))=Je R ps n a (j+1):=by
 obtain ⟨_,_,rr⟩:=RR;have low:=rr.low j hj;have pm:ps.getD j 0∈ps:=getD_in hj;apply eI (by rw[ee,jL,jL]);intro c h1 h2;rw[jL] at h2;have e1:(Je R ps n a j)[c]'(by rw[jL];exact h2)=if c=a then 1 else be j λi=>if ps.getD i 0=c then -(br R i a) else 0:=by simp only[Je,zK,List.getElem_range]
 have e2:(Je R ps n a (j+1))[c]'(by rw[jL];exact h2)=if c=a then 1 else be (j+1) λi=>if ps.getD i 0=c then -(br R i a) else 0:=by simp only[Je,zK,List.getElem_range]
 rw[List.getElem_set,e2];have es:be (j+1) (λi=>if ps.getD i 0=c then -(br R i a) else 0)=be j (λi=>if ps.getD i 0=c then -(br R i a) else 0)+if ps.getD j 0=c then -(br R j a) else 0:=rfl
 by_cases q:ps.getD j 0=c
 ·rw[if_pos q,if_neg (λz=>ha (by rw[<- z,<- q];exact pm)),es,if_pos q,cC λi hi=>?_,JM];rw[if_neg];intro z;have:=rr.inc i j hi hj
  lia
 ·rw[if_neg q,e1];by_cases z:c=a
  ·rw[if_pos z,if_pos z]
  ·rw[if_neg z,if_neg z,es,if_neg q,iD]
theorem pQ (hc:c < n) (hp:c∉ps):(so R ps n a).getD c 0=if c=a then 1 else 0:=by
 unfold so;rw[LH hc];by_cases e:c=a
 ·rw[if_pos e,if_pos e]
 ·rw[if_neg e,if_neg e,cC λi hi=>?_];rw[if_neg (λz=>hp (by rw[<- z];exact getD_in hi))]
theorem dm:∀{xs ys:List Rat},xs.length=ys.length->cS xs ys=be xs.length λc=>xs.getD c 0*ys.getD c 0:=by
 intro xs ys h
 have key:∀k,k<=xs.length->cS (xs.take k) (ys.take k)=be k λc=>xs.getD c 0*ys.getD c 0:=by
  intro k
  induction k with
  | zero=>intro _;rfl
  | succ k ih =>
   intro hk;rw[CZ (by lia) (by lia),ih (by lia)];rfl
 have:=key xs.length (aj _);rwa [aL (aj _),aL (by lia)] at this
theorem ym (RR:aO rows n R ps) (ha:a < n) (hp:a∉ps) {i:Nat} (hr:rows[i]?=some row) (hw:row.length=n):cS row (so R ps n a)=0:=by
 obtain ⟨_,_,rr⟩:=RR;have hi:=(aF.mp hr).1;have ef:∀c,br rows i c=row.getD c 0:=λc=>by unfold br;rw[aa (l:=rows),hr];rfl
 have co:=rr.coef (rr.span i hi) a;rw[ef] at co;rw[dm (by unfold so;rw[jL,hw]),hw]
 have e1:be n (λc=>row.getD c 0*(so R ps n a).getD c 0)=be n (λc=>(if c=a then row.getD a 0 else 0)+be ps.length λj=>if ps.getD j 0=c then row.getD (ps.getD j 0) 0*-(br R j a) else 0):=by
  refine aA λc hc=>?_
  unfold so;rw[LH hc];by_cases e:c=a
  ·rw[if_pos e,if_pos e,e,cC λj hj=>?_]
   ·grind
   ·rw[if_neg (λz=>hp (by rw[<- z];exact getD_in hj))]
  ·rw[if_neg e,if_neg e,<- b7,JM];refine aA λj _=>?_
   split
   ·rename_i q;rw[q]
   ·grind
 rw[e1,kd,cV (i:=a) ha (λj _ ne=>if_neg ne),if_pos rfl,<- df]
 have e2:be ps.length (λj=>be n λc=>if ps.getD j 0=c then row.getD (ps.getD j 0) 0*-(br R j a) else 0)=be ps.length λj=>-1*(br rows i (ps.getD j 0)*br R j a):=by
  refine aA λj hj=>?_
  rw[cV (i:=ps.getD j 0) (rr.low j hj) λc _ ne=>if_neg λz=>ne z.symm,if_pos rfl,ef];grind
 rw[e2,b7,co];grind
theorem LD (h0:0 < M) (hW:M<=W) (tp:∀xs∈R,∀x∈xs,Tp M W x) (RR:aO rows n R ps):∀x∈so R ps n a,Tp M W x:=λx hx=>by
 obtain ⟨_,_,rr⟩:=RR;obtain ⟨c,hc,rfl⟩:=aw.mp hx
 split
 ·exact ⟨M,by rw[fL,bf],by simpa using hW⟩
 ·by_cases hp:∃j,j < ps.length/\ps.getD j 0=c
  ·obtain ⟨j,hj,e⟩:=hp;rw[cV hj λi hi ne=>if_neg λz=>?_,if_pos e]
   ·obtain ⟨z,ez,b⟩:=Oz tp j a;exact ⟨-z,by rw[de,<- ez];grind,by rw[jA];exact b⟩
   ·rcases dZ i j with q | q | q
    ·have:=rr.inc i j q hj;lia
    ·exact ne q
    ·have:=rr.inc j i q hi;lia
  ·rw[cC λj hj=>if_neg λz=>hp ⟨j,hj,z⟩];exact Tp.zero
theorem qg:c∈di ps n↔c < n/\c∉ps:=by
 unfold di;rw[lG,nB,decide_eq_true_iff]
end
inductive CA (K:FG9) (vs:List V) (H:Hp) (Q:VK) (E9:XK):Prop
 | mk (p:Addr) (n a:Nat) (H0:Hp) (R:LR9) (ps:List Nat):vs=[.ref p,.int n,.int a]->bo K H0 H p R->R.length<=100->n<=100->(∃rows,aO rows n R ps)->a < n->a∉ps->(∀xs∈R,∀x∈xs,mQ x)->(∀r H',H r=none->aH H H'->dI K H' r (so R ps n a)->Q (.ref r) H')->CA K vs H Q E9
theorem KU:mQ 0:=xB (M:=1) (W:=1) Tp.zero (by decide) bI bI
theorem lT (h:xs∈bA R ps n):∃a,a < n/\a∉ps/\xs=so R ps n a:=by
 obtain ⟨a,ha,rfl⟩:=aw.mp h;obtain ⟨h1,h2⟩:=qg.mp ha;exact ⟨a,h1,h2,rfl⟩
theorem Jt {q:Rat} (h:q.den<=9):q.den∣2520:=by
 have:=q.den_pos;generalize q.den=d at h this;have:d=1\/d=2\/d=3\/d=4\/d=5\/d=6\/d=7\/d=8\/d=9:=by lia
 rcases this with rfl | rfl | rfl | rfl | rfl | rfl | rfl | rfl | rfl <;> decide
theorem Mu (h:Dr 9 q) (hM:2520∣M):Fr M 9 q:=(Fr.own q h.1).dvd (xv (Jt h.2) hM)
section
variable {rows:LR9} {ws xs row:List Rat} {n j:Nat}
theorem KO (hc:c < n):(bC rows n)[c]?=some (rows.map λxs=>xs.getD c 0):=by
 unfold bC;rw[aD,cR hc];rfl
theorem Qw:(rows.map λxs=>xs.getD c 0).getD i 0=br rows i c:=by
 unfold br;rw[aa,aD,aa (l:=rows)];cases rows[i]? with
 | none=>rfl
 | some y=>rfl
end
theorem Fr.up {M V M' V':Nat} (h:Fr M V x) (hd:M∣M') (hv:V<=V'):Fr M' V' x:=(h.dvd hd).mono hv
section
variable {rows R:LR9} {due:List Rat} {ps:List Nat} {n:Nat}
theorem Od {M V D B:Nat} (h:ys.length=xs.length) (hx:∀x∈xs,Fr M V x) (hy:∀y∈ys,Fr D B y):Fr (M*D) (xs.length*(V*B)) (cS xs ys):=by
 rw[dm h.symm]
 have key:∀j,j<=xs.length->Fr (M*D) (j*(V*B)) (be j λc=>xs.getD c 0*ys.getD c 0):=by
  intro j
  induction j with
  | zero=>intro _;exact Fr.zero
  | succ j ih =>
   intro hj;exact ((ih (by lia)).add ((hx _ (getD_in (by lia))).mul (hy _ (getD_in (by lia))))).mono (Nat.le_of_eq (gH j (V*B)).symm)
 exact key _ (aj _)
end
def nZ (rows us:LR9):LR9:=List.zipWith (λx y=>x++y) rows us
def qB (A:LR9) (n:Nat):Prop:=A.length=n/\∀xs∈A,xs.length=n
def xm (A B:LR9) (n:Nat):Prop:=∀i,i < n->∀k,k < n->be n (λj=>br A i j*br B j k)=if i=k then 1 else 0
section
variable {rows us A B R R0:LR9} {n m i c:Nat} {ps ps0:List Nat}
theorem yr (h:us.length=rows.length):(nZ rows us).length=rows.length:=by unfold nZ;rw[cJ];lia
theorem L0 (h1:rows[i]?=some x) (h2:us[i]?=some y):(nZ rows us)[i]?=some (x++y):=by
 unfold nZ;rw[cG,h1,h2]
theorem EM (h:∀xs∈rows,xs.length=n) (h':∀xs∈us,xs.length=m):∀xs∈nZ rows us,xs.length=n+m:=λxs hx=>by
 unfold nZ at hx;obtain ⟨i,hi,rfl⟩:=aK hx;rw[jz,av,h _ (aE _),h' _ (aE _)]
theorem Jk (h:us.length=rows.length) (hw:∀xs∈rows,xs.length=n) (hi:i < rows.length):(∀c,c < n->br (nZ rows us) i c=br rows i c)/\∀c,br (nZ rows us) i (n+c)=br us i c:=by
 have e1:=af hi;have e2:=af (show i < us.length by lia);have e3:=L0 e1 e2;have w1:=hw _ (aE hi);refine ⟨λc hc=>?_,λc=>?_⟩
 ·unfold br;rw[aa (l:=nZ rows us),e3,aa (l:=rows),e1];show (rows[i]++us[i]).getD c 0=rows[i].getD c 0
  rw[aa,cx (by lia),aa]
 ·unfold br;rw[aa (l:=nZ rows us),e3,aa (l:=us),e2];show (rows[i]++us[i]).getD (n+c) 0=us[i].getD c 0
  rw[aa,bW (by lia),aa,w1,show n+c - n=c by lia]
theorem xx:qB (cW n) n:=⟨by unfold cW;rw[ag,bX],λxs hx=>by
 unfold cW at hx;obtain ⟨i,_,rfl⟩:=aw.mp hx;unfold kq;rw[ag,bX]⟩
theorem Oy (hi:i < n) (hc:c < n):br (cW n) i c=if i=c then 1 else 0:=by
 unfold br cW;rw[aa (l:=List.map _ _),aD,cR hi];show (kq n i).getD c 0=_
 unfold kq;rw[aa,aD,cR hc];show (if ((c:Nat):Int)=i then (1:Rat) else 0)=_
 by_cases e:i=c
 ·rw[if_pos (by lia),if_pos e]
 ·rw[if_neg (by lia),if_neg e]
theorem vA (hi:i < n):(List.range n).getD i 0=i:=by
 rw[aa,cR hi];rfl
theorem My {f:Nat->Rat} (hi:i < n):be n (λj=>(if i=j then 1 else 0)*f j)=f i:=by
 rw[cV hi λj _ hj=>by rw[if_neg (Ne.symm hj)];grind,if_pos rfl];grind
theorem Js {f:Nat->Rat} (hi:i < n):be n (λj=>f j*(if j=i then 1 else 0))=f i:=by
 rw[cV hi λj _ hj=>by rw[if_neg hj];grind,if_pos rfl];grind
theorem Gg (hA:qB A n) (hB:qB B n) (h1:xm B A n) (h2:xm A B n):aO (nZ A (cW n)) (n+n) (nZ (cW n) B) (List.range n):=by
 obtain ⟨lA,wA⟩:=hA;obtain ⟨lB,wB⟩:=hB;obtain ⟨lU,wU⟩:=xx (n:=n);have lJ:(nZ A (cW n)).length=n:=by rw[yr (by lia),lA]
 have lK:(nZ (cW n) B).length=n:=by rw[yr (by lia),lU]
 have jl:∀i,i < n->∀c,c < n->br (nZ A (cW n)) i c=br A i c:=λi hi c hc=>(Jk (by lia) wA (by lia)).1 c hc
 have jr:∀i,i < n->∀c,c < n->br (nZ A (cW n)) i (n+c)=if i=c then 1 else 0:=λi hi c hc=>by
  rw[(Jk (by lia) wA (by lia)).2 c,Oy hi hc]
 have kl:∀i,i < n->∀c,c < n->br (nZ (cW n) B) i c=if i=c then 1 else 0:=λi hi c hc=>by
  rw[(Jk (by lia) wU (by lia)).1 c hc,Oy hi hc]
 have kr:∀i,i < n->∀c,br (nZ (cW n) B) i (n+c)=br B i c:=λi hi c=>(Jk (by lia) wU (by lia)).2 c
 have wJ:=EM wA wU;have wK:=EM wU wB
 have split:∀c:Nat,c < n\/(∃d,c=n+d/\d < n)\/n+n<=c:=λc=>by
  by_cases h:c < n
  ·exact .inl h
  ·by_cases h':n+n<=c
   ·exact .inr (.inr h')
   ·exact .inr (.inl ⟨c - n,by lia,by lia⟩)
 refine ⟨by rw[lK,bX],wK,λi j hi hj=>?_,λj hj=>?_,λi hi j hj=>?_,λi hi c hc=>?_,λi hi=>⟨λj=>br A i j,λc=>?_⟩,λi hi=>⟨λj=>br B i j,λc=>?_⟩⟩
 ·rw[bX] at hj;rw[vA hj,vA (by lia)];exact hi
 ·rw[bX] at hj;rw[vA hj]
  lia
 ·rw[bX] at hi hj;rw[vA hj];exact kl i hi j hj
 ·rw[bX] at hi;rw[vA hi] at hc;rw[kl i hi c (by lia),if_neg (by lia)]
 ·rw[lJ] at hi;rw[bX];rcases split c with hc | ⟨d,rfl,hd⟩ | hc
  ·rw[jl i hi c hc,aA (g:=λj=>br A i j*(if j=c then 1 else 0)) λj hj=>by rw[kl j hj c hc],Js hc]
  ·rw[jr i hi d hd,<- h2 i hi d hd];exact aA λj hj=>by rw[kr j hj d]
  ·rw[qh wJ hc,cC λj _=>by rw[qh wK hc];grind]
 ·rw[bX] at hi;rw[lJ];rcases split c with hc | ⟨d,rfl,hd⟩ | hc
  ·rw[kl i hi c hc,<- h1 i hi c hc];exact aA λj hj=>by rw[jl j hj c hc]
  ·rw[kr i hi d,aA (g:=λj=>br B i j*(if j=d then 1 else 0)) λj hj=>by rw[jr j hj d hd],Js hd]
  ·rw[qh wK hc,cC λj _=>by rw[qh wJ hc];grind]
theorem Jl (hA:qB A n) (hB:B.length=n):(nZ A B).map (λxs=>xs.drop n)=B:=by
 obtain ⟨lA,wA⟩:=hA;apply eI (by rw[ag,yr (by lia)];lia);intro i h1 h2;have e:(nZ A B)[i]?=some (A[i]'(by lia)++B[i]):=L0 (af _) (af _);rw[ag] at h1;rw[zK,(aF.mp e).2];have:=wA _ (aE (show i < A.length by lia));rw[qP (by lia),iE (by lia)];rfl
end
section
variable {X:Cx}
theorem G7:∀{n:Nat} {us:List Value},us.length=n->(∀(j:Nat) (v:Value),us[j]?=some v->∃t,v=.int ((0:Int)+(j:Int)*1) t)->cQ (c4 (List.range n)) us:=by
 intro n
 induction n with
 | zero=>intro us h _;rw[List.length_eq_zero_iff.mp h];exact .nil
 | succ n ih =>
  intro us h hv
  have h1:=ih (us:=us.take n) (by rw[aR];lia) λj v e=>by
   have hj:j < n:=by have:=(aF.mp e).1;rw[aR] at this;lia
   rw[eQ hj] at e;exact hv j v e
  obtain ⟨t,ht⟩:=hv n (us[n]'(by lia)) (af _);have e:us=us.take n++[us[n]'(by lia)]:=by rw[<- List.take_succ_eq_append_getElem (by lia),aL (by lia)]
  rw[e,lF];unfold c4 at h1 ⊢;rw[b9];refine cQ.append h1 (.cons ?_ .nil);rw[ht];exact ⟨t,by simp⟩
def Ad (ta:TA):TE:=λσ H Q=>ta σ H λvs H1=>∃n:Nat,vs=[.int n]/\n<=1000/\∀L H',aH H1 H'->H1 L=none->H' L=some (.lst (c4 (List.range n)))->Q (.ref L) H'
theorem Er {e1:Expr} {ta:TA} {p p2 pos pos2:Pos} (hg:Gl X "list") (hm:X.mg "list"=none) (hg2:Gl X "range") (hm2:X.mg "range"=none) (ha:PA X [e1] ta) (hc:X.calm=true:=by rfl)
  (hs:starEach [e1] X.env=[(false,eval e1 X.env)]:=by rfl)
  (hs3:starEach [Expr.Call (.Name "range" p2) [e1] [] pos2] X.env=[(false,eval (.Call (.Name "range" p2) [e1] [] pos2) X.env)]:=by rfl) :
  PE X (.Call (.Name "list" p) [.Call (.Name "range" p2) [e1] [] pos2] [] pos) (Ad ta):=by
 intro pins s σ H Q I h;refine wpAny_Call_Name_kw (jo I hg hm boot_list ?_);refine PyProof.Rows.callWith_type1 ?_ (by rw[hs3];rfl) rfl;rw[hs3];show wpAny _ _ (spliced ((false,eval (.Call (.Name "range" p2) [e1] [] pos2) X.env) :: [])) _ _ s
 refine Calls.spliced_cons ?_;refine Call_ (jo I hg2 hm2 boot_range (PyProof.Rows.callWith_type1 (fY (ha pos2 pins s σ H _ I h) λus s1 ⟨vs,H1,I1,r1,q1⟩=>?_) hs rfl));obtain ⟨n,e,hn,q⟩:=q1;subst e;obtain ⟨u,rfl,t,rfl⟩:=vals1 r1;refine call_range_1 ?_;refine Calls.spliced_nil ?_;have kp:∀b o,s1.heap.get? b=some o->(s1.heap.push { cls:=.type "range",data:=.fields #[.int 0 s1.toks,.int n t,.int 1 (s1.toks+1)] }).get? b=some o:=λb o e=>Heap.get?_push_of_some _ e
 refine call_list_range (I.ok.hd hc) (IsRange.new ..) (small_one (by lia) (by lia) (by lia) (by lia)) (n:=n) (by rw[rangeSize_one];split <;> lia) (by lia) λh' tk acc c hk hS hacc=>?_
 have sz:s1.heap.objs.size<=(s1.heap.push { cls:=.type "range",data:=.fields #[.int 0 s1.toks,.int n t,.int 1 (s1.toks+1)] }).objs.size:=by rw[Heap.size_push];exact mM _
 have nS:=I1.hok.fresh sz
 have vs':cQ (c4 (List.range n)) acc.toList:=G7 (by rw[Array.length_toList];exact hacc.1) λj v e=>by
  have:=hacc.2 j v (by rw[<- Array.getElem?_toList];exact e);exact this
 have sl:(c4 (List.range n)).length<=sizeLine:=by rw[oz,bX];exact aT (bO hn)
 refine ⟨.ref _,_,I1.laid (o:=.lst (c4 (List.range n))) (λb o e=>hk b o (kp b o e)) sz ?_,rfl,q _ _ (aH.new nS) nS aM⟩;exact ⟨sl,acc.toList,c,vs',by simpa using hS⟩
end
section
variable {A B:LR9} {n:Nat}
theorem Sq (M0:0 < M) (hM:M<=W) (h:∀xs∈A,∀x∈xs,Tp M W x):∀xs∈nZ A (cW n),∀x∈xs,Tp M W x:=λxs hx x hx'=>by
 unfold nZ at hx;obtain ⟨i,hi,rfl⟩:=aK hx;rw[jz] at hx';rcases az.mp hx' with z | z
 ·exact h _ (aE _) x z
 ·have m:=aE (l:=cW n) (n:=i) (by rw[cJ] at hi;lia);generalize (cW n)[i]'(by rw[cJ] at hi;lia)=ys at m z;unfold cW at m;obtain ⟨j,_,rfl⟩:=aw.mp m;unfold kq at z;obtain ⟨c,_,rfl⟩:=aw.mp z;by_cases e:((c:Nat):Int)=((j:Nat):Int)
  ·rw[if_pos e];exact ⟨M,by rw[fL];rfl,by simpa using hM⟩
  ·rw[if_neg e];exact ⟨0,by simp,by simp⟩
theorem LZ (hA:qB A n) (n15:n<=15) (M0:0 < M) (hM:M<=2^w) (w4:w<=4300) (h:∀xs∈A,∀x∈xs,Tp M (2^w) x) (hw:n*(w+4)<=8900):zF (nZ A (cW n)) (n+n) w :=
 ⟨M,2^w,M0,ai hM (ao (by decide) w4),bI,aj _,Sq M0 hM h,w4,by rw[yr (by rw[xx.1,hA.1]),hA.1];lia,by rw[yr (by rw[xx.1,hA.1]),hA.1,show min n (n+n)=n by lia];exact hw⟩
end
theorem Gh (h:sE ps=sE qs):ps=qs:=List.map_inj_right (λ_ _ e=>Int.ofNat.inj e) |>.mp h
inductive yI (K:FG9) (vs:List V) (H:Hp) (Q:VK) (E9:XK):Prop
 | mk (p:Addr) (n w:Nat) (H0:Hp) (A:LR9):vs=[.ref p]->bo K H0 H p A->qB A n->n<=40->zF (nZ A (cW n)) (n+n) w->((∀r R M H',aO (nZ A (cW n)) (n+n) R (List.range n)->H r=none->aH H H'->bo K H H' r (R.map λxs=>xs.drop n)->0 < M->M<=2^(n*(w+4))->(∀xs∈R.map (λxs=>xs.drop n),∀x∈xs,Tp M (2^(n*(w+4))) x)->Q (.ref r) H')/\(∀R ps H',aO (nZ A (cW n)) (n+n) R ps->ps.length<=n->ps≠List.range n->aH H H'->Q .non H'))->yI K vs H Q E9
def oa (K:FG9) (P:Addr->Prop) (H:Hp) (xs:List Rat) (v:V):Prop:=∃q,v=.ref q/\P q/\dI K H q xs
section
variable {K:FG9} {P:Addr->Prop} {H H':Hp} {xs:List Rat} {v:V} {b l:Addr}
theorem oa.same (h:oa K P H xs v) (s:aH H H'):oa K P H' xs v:=by obtain ⟨q,a,c,d⟩:=h;exact ⟨q,a,c,d.same s⟩
theorem oa.updL (h:oa K P H xs v) (hl:H l=some (.lst ys)) (nb:∀q,P q->q≠l):oa K P (upd H l o) xs v:=by obtain ⟨q,a,c,d⟩:=h;exact ⟨q,a,c,d.updL hl (nb q c)⟩
theorem bo.ofE {rows:LR9} (g:H l=some (.lst us)) (h:Paired (oa K P H) rows us) (h0:∀q,P q->H0 q=none) (hn:∀q,P q->q≠l):bo K H0 H l rows :=
 ⟨us,g,Paired.imp' (λ_ _ ⟨q,a,c,d⟩=>⟨q,a,h0 q c,d⟩) h,λz=>by
  obtain ⟨_,_,q,e,c,_⟩:=dd h z;cases e;exact hn _ c rfl⟩
end
theorem rV {α β:Type} {F G:α->β->Prop}:∀{l1:List α} {l2:List β},(∀a b,b∈l2->F a b->G a b)->Paired F l1 l2->Paired G l1 l2
 | _,_,_,.nil=>.nil
 | _,_,h,.cons a r=>.cons (h _ _ (by simp) a) (rV (λx y hy=>h x y (by simp [hy])) r)
section
variable {rows rows' R R':LR9} {n w W:Nat} {ps ps':List Nat}
theorem xE (hw:∀xs∈rows,xs.length=n) (hW:1<=W) (ent:∀i,i < (rows.map gK).length->∀c,Fr 1 W (dU (rows.map gK) i c)):∀P,P<=n->∃ls ps d,Dz (rows.map gK) n P ls ps d:=by
 intro P
 induction P with
 | zero=>intro _;exact ⟨_,_,_,Dz.start λzs hz=>by obtain ⟨x,hx,rfl⟩:=aw.mp hz;rw[oi];exact hw x hx⟩
 | succ P ih =>
  intro hP;obtain ⟨ls,ps,d,I⟩:=ih (by lia);by_cases e:∃t,ps.length<=t/\t < ls.length/\dU ls t P≠0
  ·obtain ⟨t,h1,h2,h3⟩:=e;exact ⟨_,_,_,I.step hW ent h1 h2 h3⟩
  ·exact ⟨_,_,_,I.skip λi h1 h2=>by
    by_cases z:dU ls i P=0
    ·exact z
    ·exact absurd ⟨i,h1,h2,z⟩ e⟩
theorem xW (hw:∀xs∈rows,xs.length=n) (F:zF rows n w):∃R ps d ls,Tt rows n w R ps d ls:=by
 obtain ⟨W,hW,W2,ent⟩:=F.ent;obtain ⟨ls,ps,d,I⟩:=xE hw hW ent n (aj _);obtain ⟨R,S⟩:=I.done hw F;exact ⟨R,ps,d,_,S⟩
theorem Lf (hw:∀xs∈rows,xs.length=n) (F:zF rows n w) (RR:aO rows n R ps):ps.length<=rows.length/\∃M,0 < M/\M<=2^(min rows.length n*(w+4))/\∀xs∈R,∀x∈xs,Tp M (2^(min rows.length n*(w+4))) x:=by
 obtain ⟨R2,ps2,d,ls,S⟩:=xW hw F;obtain ⟨rfl,rfl⟩:=S.rr.same RR;exact ⟨S.km,d.natAbs,Int.natAbs_pos.mpr S.d0,S.dsz,S.tp⟩
theorem Kn {p q:Nat->Nat} (hp:∀i j,i < j->j < k->p i < p j) (hq:∀i j,i < j->j < k->q i < q j) (hs:∀i,i < k->∃j,j < k/\q j=p i):∀i,i < k->p i=q i:=by
 have hqm:∀i j,i<=j->j < k->q i<=q j:=λi j h hj=>by
  rcases bV i j with z | z
  ·exact aT (hq i j z hj)
  ·have:i=j:=by lia
   rw[this];exact aj _
 have hqi:∀i j,i < k->j < k->q i < q j->i < j:=λi j hi hj h=>by
  rcases bV i j with z | z
  ·exact z
  ·have:=hqm j i z hi
   lia
 have key:∀i,i < k->∀j,j < k->q j=p i->i<=j:=by
  intro i
  induction i with
  | zero=>intro _ j _ _;exact bL _
  | succ i ih =>
   intro hi j hj e;obtain ⟨j',hj',e'⟩:=hs i (by lia);have h1:=ih (by lia) j' hj' e';have h2:=hp i (i+1) (by lia) hi;have:=hqi j' j hj' hj (by lia)
   lia
 have key2:∀t i,i+t+1=k->∀j,j < k->q j=p i->j<=i:=by
  intro t
  induction t with
  | zero=>intro i e j hj _;lia
  | succ t ih =>
   intro i e j hj ej;obtain ⟨j',hj',e'⟩:=hs (i+1) (by lia);have h1:=ih (i+1) (by lia) j' hj' e';have h2:=hp i (i+1) (by lia) (by lia);have:=hqi j j' hj hj' (by lia)
   lia
 intro i hi;obtain ⟨j,hj,e⟩:=hs i hi;have h1:=key i hi j hj e;have h2:=key2 (k - 1 - i) i (by lia) j hj e;have:j=i:=by lia
 rw[<- e,this]
theorem J6 (h:aO rows n R ps) (h':aO rows' n R' ps') (hl:ps.length=ps'.length) (hs:∀i,i < ps.length->eG ps'.length (br R') (br R i)):R=R'/\ps=ps':=by
 obtain ⟨l1,w1,r1⟩:=h;obtain ⟨l2,w2,r2⟩:=h'
 have ep:∀i,i < ps.length->ps.getD i 0=ps'.getD i 0:=Kn r1.inc (by rw[hl];exact r2.inc) λi hi=>by
  have u:=r1.unit i hi i hi;rw[if_pos rfl] at u;obtain ⟨j,hj,e⟩:=r2.lead_in (hs i hi) (c:=ps.getD i 0) (by rw[u];decide) (λc hc=>r1.lead i hi c hc);exact ⟨j,by lia,e⟩
 have eps:ps=ps':=by
  apply eI hl;intro i a b;have:=ep i a;rw[aa,aa,af a,af b] at this;exact this
 refine ⟨Mm (n:=n) (by lia) w1 w2 λi hi c=>?_,eps⟩;rw[l1] at hi;rw[r2.coef (hs i hi) c,<- hl,cV hi λj hj hj'=>?_]
 ·rw[<- ep i hi];have u:=r1.unit i hi i hi;rw[if_pos rfl] at u;rw[u];grind
 ·rw[<- ep j hj];have u:=r1.unit i hi j hj;rw[if_neg (Ne.symm hj')] at u;rw[u];grind
end
def ow (mv:LR9) (x:List Rat):List Rat:=mv.map λxs=>cS xs x
def kry (mv pt:LR9):Nat->LR9
 | 0=>[]
 | t+1=>pt++(kry mv pt t).map (ow mv)
section
variable {mv pt R R' S X Y:LR9} {n t m i c:Nat} {ps ps':List Nat} {a:Nat->Nat->Rat}
theorem uO:(ow mv x).length=mv.length:=ag ..
theorem Jb (lm:mv.length=n) (wm:∀xs∈mv,xs.length=n) (wR:∀xs∈R,xs.length=n) (hi:i < R.length) (c:Nat):br (R.map (ow mv)) i c=be n λj=>br mv c j*br R i j:=by
 have wi:=wR _ (aE hi);have e1:(R.map (ow mv)).getD i []=ow mv R[i]:=by rw[aa,aD,af hi];rfl
 have e2:R.getD i []=R[i]:=by rw[aa,af hi];rfl
 by_cases hc:c < n
 ·have wc:=wm _ (aE (show c < mv.length by lia));have e3:mv.getD c []=mv[c]'(by lia):=by rw[aa,af (by lia)];rfl
  have e4:(ow mv R[i]).getD c 0=cS (mv[c]'(by lia)) R[i]:=by
   unfold ow;rw[aa,aD,af (by lia)];rfl
  unfold br;rw[e1,e2,e3,e4,dm (by lia),wc]
 ·have e3:mv.getD c []=[]:=by rw[aa,aS (by lia)];rfl
  unfold br
  rw[e1,e3,aa,aS (by rw[uO];lia),cC λj _=>by
   show ([]:List Rat).getD j 0*_=0
   rw[aa];show (0:Rat)*_=0
   grind]
  rfl
theorem Af (lm:mv.length=n) (wm:∀xs∈mv,xs.length=n) (wR:∀xs∈R,xs.length=n) (wS:∀xs∈S,xs.length=n) (hi:i < R.length) (h:eG S.length (br S) (br R i)):eG (S.map (ow mv)).length (br (S.map (ow mv))) (br (R.map (ow mv)) i):=by
 obtain ⟨w,hw⟩:=h;refine ⟨w,λc=>?_⟩;rw[Jb lm wm wR hi,ag]
 have e1:be n (λj=>br mv c j*br R i j)=be n (λj=>be S.length λs=>w s*(br mv c j*br S s j)):=aA λj _=>by
  rw[hw j,<- b7];exact aA λs _=>by grind
 rw[e1,df];exact aA λs hs=>by rw[b7,Jb lm wm wS hs]
theorem yB (h:i < X.length):br (X++Y) i=br X i:=by
 funext c;unfold br;rw[aa (l:=X++Y),cx h,<- aa]
theorem qA:br (X++Y) (X.length+i)=br Y i:=by
 funext c;unfold br;rw[aa (l:=X++Y),bW (by lia),show X.length+i - X.length=i by lia,<- aa]
theorem vn (h1:∀i,i < X.length->eG m a (br X i)) (h2:∀i,i < Y.length->eG m a (br Y i)):∀i,i < (X++Y).length->eG m a (br (X++Y) i):=λi hi=>by
 rw[av] at hi;by_cases h:i < X.length
 ·rw[yB h];exact h1 i h
 ·obtain ⟨j,rfl⟩:∃j,i=X.length+j:=⟨i - X.length,by lia⟩;rw[qA];exact h2 j (by lia)
theorem qY (h:i < X.length):eG (X++Y).length (br (X++Y)) (br X i):=by
 have:=eG.row (a:=br (X++Y)) (m:=(X++Y).length) (i:=i) (by rw[av];lia);rwa [yB h] at this
theorem oq (h:eG Y.length (br Y) x):eG (X++Y).length (br (X++Y)) x:=eG.trans (λs hs=>by
 have:=eG.row (a:=br (X++Y)) (m:=(X++Y).length) (i:=X.length+s) (by rw[av];lia);rwa [qA] at this) h
theorem fb (lm:mv.length=n) (wp:∀xs∈pt,xs.length=n):∀t,∀xs∈kry mv pt t,xs.length=n:=by
 intro t
 induction t with
 | zero=>intro xs hx;cases hx
 | succ t ih =>
  intro xs hx;rcases az.mp hx with hx | hx
  ·exact wp xs hx
  ·obtain ⟨y,_,rfl⟩:=aw.mp hx;rw[uO,lm]
theorem vQ (lm:mv.length=n) (wm:∀xs∈mv,xs.length=n) (wp:∀xs∈pt,xs.length=n) (RR:aO (kry mv pt t) n R ps) (RR':aO (pt++R.map (ow mv)) n R' ps'):aO (kry mv pt (t+1)) n R' ps':=by
 have wk:=fb (mv:=mv) lm wp t;refine ⟨RR'.1,RR'.2.1,RR'.2.2.other ?_ ?_⟩
 ·refine vn (λi hi=>qY hi) λi hi=>oq ?_
  rw[ag] at hi;exact Af lm wm RR.2.1 wk hi (RR.2.2.back i (by rw[<- RR.1];exact hi))
 ·refine vn (λi hi=>qY hi) λi hi=>oq ?_
  rw[ag] at hi;have:=RR.2.2.span i hi;rw[<- RR.1] at this;exact Af lm wm wk RR.2.1 hi this
theorem LU (lm:mv.length=n) (wm:∀xs∈mv,xs.length=n) (wp:∀xs∈pt,xs.length=n):∀t i,i < (kry mv pt t).length->eG (kry mv pt (t+1)).length (br (kry mv pt (t+1))) (br (kry mv pt t) i):=by
 intro t
 induction t with
 | zero=>intro i hi;cases hi
 | succ t ih =>
  refine vn (λi hi=>qY hi) λi hi=>oq ?_
  rw[ag] at hi;exact Af lm wm (fb lm wp t) (fb lm wp (t+1)) hi (ih i hi)
theorem A6 (lm:mv.length=n) (wm:∀xs∈mv,xs.length=n) (wp:∀xs∈pt,xs.length=n) (RR:aO (kry mv pt t) n R ps) (RR':aO (kry mv pt (t+1)) n R' ps'):∀i,i < ps.length->eG ps'.length (br R') (br R i):=λi hi =>
 eG.trans (λs hs=>RR'.2.2.span s hs) (eG.trans (LU lm wm wp t) (RR.2.2.back i hi))
theorem CT (lm:mv.length=n) (wm:∀xs∈mv,xs.length=n) (wp:∀xs∈pt,xs.length=n) (RR:aO (kry mv pt t) n R ps) (RR':aO (pt++R.map (ow mv)) n R' ps') (hl:ps'.length=ps.length):∀s,aO (kry mv pt (t+s)) n R ps:=by
 have K1:=vQ lm wm wp RR RR';obtain ⟨e1,e2⟩:=J6 RR K1 hl.symm (A6 lm wm wp RR K1);subst e1 e2;intro s
 induction s with
 | zero=>exact RR
 | succ s ih=>exact vQ lm wm wp ih RR'
theorem F7 (lm:mv.length=n) (wm:∀xs∈mv,xs.length=n) (wp:∀xs∈pt,xs.length=n) (RR:aO (kry mv pt t) n R ps) (RR':aO (kry mv pt (t+1)) n R' ps'):ps.length<=ps'.length:=by
 have h:=A6 lm wm wp RR RR'
 have hs:∀i,i < ps.length->∃j,j < ps'.length/\ps'.getD j 0=ps.getD i 0:=λi hi=>by
  have u:=RR.2.2.unit i hi i hi;rw[if_pos rfl] at u;exact RR'.2.2.lead_in (h i hi) (c:=ps.getD i 0) (by rw[u];decide) (λc hc=>RR.2.2.lead i hi c hc)
 rcases bV ps'.length ps.length with z | z
 ·exfalso
  have key:∀i,i < ps.length->∀j,j < ps'.length->ps'.getD j 0=ps.getD i 0->i<=j:=by
   intro i
   induction i with
   | zero=>intro _ j _ _;exact bL _
   | succ i ih =>
    intro hi j hj e;obtain ⟨j',hj',e'⟩:=hs i (by lia);have h1:=ih (by lia) j' hj' e';have h2:=RR.2.2.inc i (i+1) (by lia) hi;rcases bV j' j with y | y
    ·lia
    ·rcases bV j j' with x | x
     ·have:=RR'.2.2.inc j j' x hj'
      lia
     ·have:j=j':=by lia
      rw[this] at e
      lia
  obtain ⟨j,hj,e⟩:=hs (ps.length - 1) (by lia);have:=key (ps.length - 1) (by lia) j hj e
  lia
 ·exact z
theorem LV {M V c:Nat} (lm:mv.length=n) (wm:∀xs∈mv,xs.length=n) (wp:∀xs∈pt,xs.length=n) (hc:(n+1)*V<=2^c) (fm:GF M V mv) (fp:GF M V pt):∀t,∀xs∈kry mv pt t,∀x∈xs,Fr (M^t) (2^(c*t)) x:=by
 intro t
 induction t with
 | zero=>intro xs hx;cases hx
 | succ t ih =>
  intro xs hx x hx';have hV:V<=2^c:=ai (d4 _ (by lia)) hc;rcases az.mp hx with hx | hx
  ·refine Fr.up (fp xs hx x hx') (by rw[gI];exact dO _ _) (ai hV (ao (by decide) (dn _ (by lia))))
  ·obtain ⟨y,hy,rfl⟩:=aw.mp hx;unfold ow at hx';obtain ⟨r,hr,rfl⟩:=aw.mp hx';have wr:=wm r hr;have wy:=fb (mv:=mv) lm wp t y hy;have f:=Od (by lia) (fm r hr) (ih y hy);rw[gI,cw (M^t)];refine f.mono ?_;rw[fM,MI,bg,cw (2^(c*t)),<- b8,wr];exact ay _ (ai (ay _ (by lia)) hc)
def og (mv pt:LR9) (a c:Nat):Prop:=∃M V:Nat,0 < M/\M<=2^a/\(mv.length+1)*V<=2^c/\GF M V mv/\GF M V pt/\a<=400/\c<=40/\mv.length*(mv.length*(a+c)+4)<=1740/\mv.length*(mv.length*(mv.length*(a+c)+4)+a+c+4)<=8900
theorem og.swf {a c:Nat} (F:og mv pt a c) (D:mv.length<=8) (wm:∀xs∈mv,xs.length=mv.length) (wp:∀xs∈pt,xs.length=mv.length) (ht:t<=mv.length):zF (kry mv pt t) mv.length (mv.length*(a+c)):=by
 obtain ⟨M,V,M0,Ma,hV,fm,fp,a3,c3,e14,e89⟩:=F;have f:=LV rfl wm wp hV fm fp t;have h1:mv.length*(a+c)<=8*440:=aJ D (by lia);have hM:M^t<=2^(a*mv.length):=ai (kn Ma _) (by rw[<- xo];exact ao (by decide) (aY _ ht));have h2:a*mv.length<=mv.length*(a+c):=by rw[cw];exact aY _ (by lia)
 have h3:mv.length=0\/mv.length*(a+c)<=1740:=by
  rcases lW mv.length with z | z
  ·exact .inl z
  ·right
   have:=d4 (mv.length*(a+c)+4) z
   lia
 have h4:mv.length*(a+c)<=1740:=by
  rcases h3 with z | z
  ·rw[z];lia
  ·exact z
 refine ⟨M^t,2^(mv.length*(a+c)),mL M0,ai hM (ao (by decide) (by lia)),bI,aj _,λxs hx x hx'=>Tp.of (f xs hx x hx') ?_,by lia,by lia,?_⟩
 ·refine ai (aJ (ao (by decide) (aY c ht)) hM) ?_;rw[<- bg];refine ao (by decide) ?_;rw[cw c,cw a,<- fM,nk c];exact aj _
 ·exact ai (ay _ (KD _ _)) (by lia)
theorem og.tp {a c:Nat} (F:og mv pt a c) (D:mv.length<=8) (wm:∀xs∈mv,xs.length=mv.length) (wp:∀xs∈pt,xs.length=mv.length) (ht:t<=mv.length) (RR:aO (kry mv pt t) mv.length R ps):∃M,0 < M/\M<=2^(mv.length*(mv.length*(a+c)+4))/\∀xs∈R,∀x∈xs,Tp M (2^(mv.length*(mv.length*(a+c)+4))) x:=by
 obtain ⟨_,M,h0,h1,h2⟩:=Lf (fb rfl wp t) (F.swf D wm wp ht) RR;have le:2^(min (kry mv pt t).length mv.length*(mv.length*(a+c)+4))<=2^(mv.length*(mv.length*(a+c)+4)):=ao (by decide) (ay _ (KD _ _));exact ⟨M,h0,ai h1 le,λxs hx x hx'=>(h2 xs hx x hx').mono le⟩
theorem og.step {a c:Nat} (F:og mv pt a c) (D:mv.length<=8) (wm:∀xs∈mv,xs.length=mv.length) (wp:∀xs∈pt,xs.length=mv.length) (ht:t<=mv.length) (RR:aO (kry mv pt t) mv.length R ps):zF (pt++R.map (ow mv)) mv.length (mv.length*(mv.length*(a+c)+4)+a+c):=by
 obtain ⟨N,N0,N1,tN⟩:=F.tp D wm wp ht RR;obtain ⟨M,V,M0,Ma,hV,fm,fp,a3,c3,e14,e89⟩:=F;generalize mv.length*(mv.length*(a+c)+4)=e at *
 have V1:V<=2^c:=ai (d4 _ (by lia)) hV;have eW:(2:Nat)^(e+a+c)=2^c*(2^a*2^e):=by rw[<- bg,<- bg];congr 1;lia
 refine ⟨N*M,2^(e+a+c),bQ N0 M0,?_,bI,aj _,λxs hx x hx'=>?_,by lia,by lia,?_⟩
 ·exact ai (aJ N1 Ma) (by rw[<- bg];exact ao (by decide) (by lia))
 ·rcases az.mp hx with hx | hx
  ·refine Tp.of ((fp xs hx x hx').scaleL N) ?_;rw[eW,cw N];exact aJ V1 (aJ Ma N1)
  ·obtain ⟨y,hy,rfl⟩:=aw.mp hx;unfold ow at hx';obtain ⟨r,hr,rfl⟩:=aw.mp hx';have wr:=wm r hr;have wy:=RR.2.1 y hy;rw[dm (by lia),wr];have t1:∀j,Tp M (V*M) (r.getD j 0):=λj=>DN (λx hx=>Tp.of (fm r hr x hx) (aj _)) j
   have t2:∀j,Tp N (2^e) (y.getD j 0):=λj=>DN (tN y hy) j
   have:=Tp.sum (k:=mv.length) (M:=N*M) (W:=V*M*2^e) (f:=λj=>r.getD j 0*y.getD j 0) λj _=>by
    have:=(t1 j).mul (t2 j);rwa [cw M N] at this
   refine this.mono ?_;rw[eW,b8 V,<- b8 mv.length];exact aJ (ai (ay _ (by lia)) hV) (ay _ Ma)
 ·exact ai (ay _ (KD _ _)) (by rw[show e+a+c+4=e+a+c+4 from rfl];exact e89)
theorem og.fit {a c:Nat} (F:og mv pt a c) (D:mv.length<=8) (wm:∀xs∈mv,xs.length=mv.length) (wp:∀xs∈pt,xs.length=mv.length) (ht:t<=mv.length) (RR:aO (kry mv pt t) mv.length R ps):∀xs∈mv,∀r∈R,qQ xs r:=λxs hx r hr=>by
 obtain ⟨N,N0,N1,tN⟩:=F.tp D wm wp ht RR;obtain ⟨M,V,M0,Ma,hV,fm,fp,a3,c3,e14,e89⟩:=F;have V1:V<=2^c:=ai (d4 _ (by lia)) hV;have p14:=ao (show 0 < 2 by decide) e14;exact ⟨400,40,1740,1740,⟨M,V,M0,ai Ma (ao (by decide) a3),ai V1 (ao (by decide) c3),fm xs hx⟩,⟨N,2^1740,N0,ai N1 p14,aj _,λx hx=>((tN r hr x hx).mono p14).fr N0⟩,by decide⟩
end
inductive CB (K:FG9) (C:Addr) (vs:List V) (H:Hp) (Q:VK) (E9:XK):Prop
 | mk (x p:Addr) (H0 H1:Hp) (mv pt lk R:LR9):vs=[.ref x,.ref p]->iW K H0 H C x mv pt lk->dr mv pt lk->bo K H1 H p R->R.length<=100->(∀r∈R,r.length=mv.length)->(∀xs∈mv,∀r∈R,qQ xs r)->(∀r H',H r=none->aH H H'->bo K H H' r (R.map (ow mv))->Q (.ref r) H')->CB K C vs H Q E9
structure BK (mv pt:LR9) (Rs:List (LR9)):Prop where
 ne:Rs≠[]
 rr:∀t R,Rs[t]?=some R->∃ps,aO (kry mv pt t) mv.length R ps
 up:∀t R R',Rs[t]?=some R->Rs[t+1]?=some R'->R.length < R'.length
def GrL (K:FG9) (H0 H:Hp) (l:Addr) (Rs:List (LR9)):Prop:=∃us,H l=some (.lst us)/\Paired (λR v=>∃q,v=V.ref q/\H0 q=none/\q≠l/\bo K H0 H q R) Rs us
inductive CF (K:FG9) (C:Addr) (vs:List V) (H:Hp) (Q:VK) (E9:XK):Prop
 | mk (x:Addr) (a c st:Nat) (H0:Hp) (mv pt lk:LR9):vs=[.ref x,.int st]->st<=1000->iW K H0 H C x mv pt lk->dr mv pt lk->og mv pt a c->(∀r Rs H',H r=none->aH H H'->GrL K H H' r Rs->BK mv pt Rs->Rs.length<=st+1->(∀R,Rs.getLast?=some R->∀s,(Rs.length - 1=st/\s=st\/Rs.length - 1 < st/\Rs.length - 1<=s)->∃ps,aO (kry mv pt s) mv.length R ps)->Q (.ref r) H')->CF K C vs H Q E9
inductive Cw (K:FG9) (C:Addr) (vs:List V) (H:Hp) (Q:VK) (E9:XK):Prop
 | mk (x:Addr) (a c st:Nat) (H0:Hp) (mv pt lk:LR9):vs=[.ref x,.int st]->st<=1000->iW K H0 H C x mv pt lk->dr mv pt lk->og mv pt a c->(∀r R ps H',H r=none->aH H H'->bo K H H' r R->aO (kry mv pt st) mv.length R ps->Q (.ref r) H')->Cw K C vs H Q E9
section
variable {K:FG9} {H0 H1 H H':Hp} {p l:Addr} {rows mv pt R R':LR9} {Rs:List (LR9)} {t:Nat}
theorem bo.weakN (h:bo K H0 H p rows) (hn:∀q,H0 q=none->H1 q=none):bo K H1 H p rows:=by obtain ⟨xs,g,r,n⟩:=h;exact ⟨xs,g,Paired.imp' (λ_ _ ⟨q,a,b,c⟩=>⟨q,a,hn q b,c⟩) r,n⟩
theorem bo.updL (h:bo K H0 H p rows) (hl:H l=some (.lst ys)) (nl:H0 l≠none) (pl:p≠l):bo K H0 (upd H l o) p rows:=by obtain ⟨xs,g,r,n⟩:=h;exact ⟨xs,by rw[bN pl];exact g,Paired.imp' (λ_ _ z=>cI.updL z hl nl) r,n⟩
theorem HF:aO [] n [] []:=⟨rfl,(λ_ h=>by cases h),(λ_ _ _ h=>absurd h (fj _)),(λ_ h=>absurd h (fj _)),(λ_ h=>absurd h (fj _)),(λ_ h=>absurd h (fj _)),(λ_ h=>absurd h (fj _)),(λ_ h=>absurd h (fj _))⟩
theorem BK.len (h:BK mv pt Rs):∀(t:Nat) (R:LR9),Rs[t]?=some R->t<=R.length:=by
 intro t
 induction t with
 | zero=>intro R _;exact bL _
 | succ t ih =>
  intro R e;have ht:=(aF.mp e).1;have e0:=af (show t < Rs.length by lia);have:=ih _ e0;have:=h.up t _ R e0 e
  lia
theorem BK.snoc (h:BK mv pt (Rs++[R])) (h1:aO (kry mv pt (Rs.length+1)) mv.length R' ps') (h2:R.length < R'.length):BK mv pt ((Rs++[R])++[R']):=by
 have l1:(Rs++[R]).length=Rs.length+1:=by rw[av];rfl
 refine ⟨by simp,λt S e=>?_,λt S S' e e'=>?_⟩
 ·rcases bV t (Rs.length+1) with z | z
  ·rw[cx (by lia)] at e;exact h.rr t S e
  ·have ht:=(aF.mp e).1;rw[av,bH] at ht;have:t=Rs.length+1:=by lia
   subst this;rw[bW (by lia),l1,nh] at e;cases e;exact ⟨ps',h1⟩
 ·have ht:=(aF.mp e').1;rw[av,bH] at ht;rw[cx (by lia)] at e;rcases bV (t+1) (Rs.length+1) with z | z
  ·rw[cx (by lia)] at e';exact h.up t S S' e e'
  ·have:t=Rs.length:=by lia
   subst this;rw[bW (by lia),l1,nh] at e';cases e';rw[bW (aj _),nh] at e;cases e;exact h2
end
def qD (k t i:Nat):Nat:=if i < k then i else if i=k then t else if i<=t then i - 1 else i
def FU (k t i:Nat):Nat:=if i < k then i else if i=t then k else if i < t then i+1 else i
section
variable {k t m i j:Nat}
theorem vv (h : k ≤ t) (ht : t < m) (hi : i < m) : qD k t i < m := by     unfold qD; split; · exact hi
                                                                          · split; · exact ht
                                                                            · split <;> lia
theorem RZ (h : k ≤ t) (ht : t < m) (hi : i < m) : FU k t i < m := by     unfold FU; split; · exact hi
                                                                          · split; · lia
                                                                            · split <;> lia
theorem RY (h:k<=t):qD k t (FU k t i)=i:=by
 by_cases h1:i < k
 ·rw[show FU k t i=i by unfold FU;rw[if_pos h1]];unfold qD;rw[if_pos h1]
 ·by_cases h2:i=t
  ·rw[show FU k t i=k by unfold FU;rw[if_neg h1,if_pos h2]];unfold qD;rw[if_neg (by lia),if_pos rfl,h2]
  ·by_cases h3:i < t
   ·rw[show FU k t i=i+1 by unfold FU;rw[if_neg h1,if_neg h2,if_pos h3]];unfold qD;rw[if_neg (by lia),if_neg (by lia),if_pos (by lia)];lia
   ·rw[show FU k t i=i by unfold FU;rw[if_neg h1,if_neg h2,if_neg h3]];unfold qD;rw[if_neg h1,if_neg (by lia),if_neg (by lia)]
theorem OO (h:k<=t):FU k t (qD k t i)=i:=by
 by_cases h1:i < k
 ·rw[show qD k t i=i by unfold qD;rw[if_pos h1]];unfold FU;rw[if_pos h1]
 ·by_cases h2:i=k
  ·rw[show qD k t i=t by unfold qD;rw[if_neg h1,if_pos h2]];unfold FU;rw[if_neg (by lia),if_pos rfl,h2]
  ·by_cases h3:i<=t
   ·rw[show qD k t i=i - 1 by unfold qD;rw[if_neg h1,if_neg h2,if_pos h3]];unfold FU;rw[if_neg (by lia),if_neg (by lia),if_pos (by lia)];lia
   ·rw[show qD k t i=i by unfold qD;rw[if_neg h1,if_neg h2,if_neg h3]];unfold FU;rw[if_neg h1,if_neg (by lia),if_neg (by lia)]
theorem rO (hi:i < k):qD k t i=i:=by unfold qD;rw[if_pos hi]
theorem vw (h:k<=t) (hi:k<=i):k<=qD k t i:=by
 unfold qD;rw[if_neg (by lia)]
 split
 ·exact h
 ·split <;> lia
variable {a l:Nat->Nat->Rat} {pm p:Nat->Nat} {d:Rat} {P:Nat}
theorem xu.rot (B:xu a m k pm p l d) (h:k<=t) (ht:t < m):xu a m k (λi=>pm (qD k t i)) p (λi=>l (qD k t i)) d where
 inj i j hi hj e:=by
  have:=B.inj _ _ (vv h ht hi) (vv h ht hj) e;rw[<- OO (i:=i) h,this,OO h]
 rng i hi:=B.rng _ (vv h ht hi)
 km:=B.km
 d0:=B.d0
 det:=by rw[B.det,AA (f:=pm) (g:=λi=>pm (qD k t i)) λj hj=>by rw[rO hj]]
 eqs i hi c:=by
  have e:=B.eqs (qD k t i) (vv h ht hi) c;have e1:be k (λj=>a (pm (qD k t i)) (p j)*l (qD k t j) c)=be k (λj=>a (pm (qD k t i)) (p j)*l j c):=aA λj hj=>by rw[rO hj]
  rw[e1];by_cases hk:i < k
  ·rw[rO hk] at e ⊢;exact e
  ·rw[if_neg hk];rw[if_neg (by have:=vw h (show k<=i by lia);lia)] at e;exact e
 unit i hi j hj:=by
  rw[B.unit _ (vv h ht hi) j hj];by_cases hk:i < k
  ·rw[rO hk]
  ·have:=vw h (show k<=i by lia);rw[if_neg (by lia),if_neg (by lia)]
theorem jR.rot (E:jR a m k P p l d) (h:k<=t) (ht:t < m):jR a m k P p (λi=>l (qD k t i)) d where
 km:=E.km
 d0:=E.d0
 unit i hi j hj:=by
  rw[E.unit _ (vv h ht hi) j hj];by_cases hk:i < k
  ·rw[rO hk]
  ·have:=vw h (show k<=i by lia);rw[if_neg (by lia),if_neg (by lia)]
 inc:=E.inc
 low:=E.low
 zero i h1 h2 c hc:=E.zero _ (vw h h1) (vv h ht h2) c hc
 lead j hj c hc:=by rw[rO hj];exact E.lead j hj c hc
 there i hi:=eG.trans (λs hs=>eG.congr (λc=>by rw[RY h]) (eG.row (a:=λi=>l (qD k t i)) (i:=FU k t s) (RZ h ht hs))) (E.there i hi)
 back i hi:=E.back _ (vv h ht hi)
end
section
variable {rows fs ls:LR9} {n P w a:Nat} {ps:List Nat}
theorem M5:jx k k i=i:=by unfold jx;split <;> (try split) <;> lia
theorem Aa.rot (h:Aa rows n P (fs++ls) ps) (hf:fs.length=ps.length) (ht:t < ls.length):Aa rows n P (fs++ls.getD t [] :: ls.eraseIdx t) ps:=by
 obtain ⟨len,wide,pm,l,d,B,E,v⟩:=h;rw[av] at len;have h1:ps.length<=ps.length+t:=by lia
 have h2:ps.length+t < rows.length:=by lia
 have ef:∀i,i < rows.length->∀c,br (fs++ls.getD t [] :: ls.eraseIdx t) i c=br (fs++ls) (qD ps.length (ps.length+t) i) c:=λi hi c=>by
  by_cases z:i < ps.length
  ·rw[rO z,yB (by lia),yB (by lia)]
  ·obtain ⟨j,rfl⟩:∃j,i=fs.length+j:=⟨i - fs.length,by lia⟩;rw[qA];cases j with
   | zero =>
    rw[show qD ps.length (ps.length+t) (fs.length+0)=fs.length+t by unfold qD;rw[if_neg (by lia),if_pos (by lia)];lia,qA];rfl
   | succ j =>
    by_cases y:j < t
    ·rw[show qD ps.length (ps.length+t) (fs.length+(j+1))=fs.length+j by unfold qD;rw[if_neg (by lia),if_neg (by lia),if_pos (by lia)];lia,qA];show br (ls.eraseIdx t) j c=_
     unfold br;rw[aa (l:=ls.eraseIdx t),List.getElem?_eraseIdx_of_lt y,<- aa]
    ·rw[show qD ps.length (ps.length+t) (fs.length+(j+1))=fs.length+(j+1) by unfold qD;rw[if_neg (by lia),if_neg (by lia),if_neg (by lia)],qA];show br (ls.eraseIdx t) j c=_
     unfold br;rw[aa (l:=ls.eraseIdx t),List.getElem?_eraseIdx_of_ge (by lia),<- aa]
 refine ⟨?_,λxs hx=>?_,λi=>pm (qD ps.length (ps.length+t) i),λi=>l (qD ps.length (ps.length+t) i),d,B.rot h1 h2,E.rot h1 h2,λi hi c=>?_⟩
 ·rw[av,bD,Pb ht];lia
 ·rcases az.mp hx with hx | hx
  ·exact wide xs (az.mpr (.inl hx))
  ·rcases aG.mp hx with rfl | hx
   ·exact wide _ (az.mpr (.inr (getD_in ht)))
   ·exact wide xs (az.mpr (.inr (Rm hx)))
 ·rw[ef i hi c,v _ (vv h1 h2 hi) c];by_cases z:i < ps.length
  ·dsimp only
   rw[rO z]
  ·rw[if_neg z,if_neg (by have:=vw h1 (show ps.length<=i by lia);lia)]
def m6 (P:Nat) (h:List Rat):List Rat:=h.map λy=>1 / h.getD P 0*y
def zP (P:Nat) (u r:List Rat):List Rat:=List.zipWith (λx y=>x - y) r (u.map λy=>r.getD P 0*y)
theorem Aa.lean (h:Aa rows n P (fs++ls) ps) (hf:fs.length=ps.length) (ht:t < ls.length) (hP:P < n) (hne:(ls.getD t []).getD P 0≠0):Aa rows n (P+1) ((fs.map (zP P (m6 P (ls.getD t [])) )++[m6 P (ls.getD t [])])++(ls.eraseIdx t).map (zP P (m6 P (ls.getD t [])))) (ps++[P]):=by
 have R:=h.rot hf ht;have len:=R.len;have wide:=R.wide;generalize ls.getD t []=hd at *
 generalize ls.eraseIdx t=l2 at *
 rw[av,bD] at len;have whd:hd.length=n:=wide _ (az.mpr (.inr (.head _)));have wu:(m6 P hd).length=n:=by unfold m6;rw[ag];exact whd
 have ek:br (fs++hd :: l2) ps.length=λc=>hd.getD c 0:=by
  have:=qA (X:=fs) (Y:=hd :: l2) (i:=0);rw[show fs.length+0=ps.length by lia] at this;rw[this];rfl
 have wl:∀r,r.length=n->(zP P (m6 P hd) r).length=n:=λr hr=>by unfold zP;rw[cJ,ag,wu,hr];lia
 have vl:∀r,r.length=n->∀c,(zP P (m6 P hd) r).getD c 0=r.getD c 0 - r.getD P 0*(1 / hd.getD P 0*hd.getD c 0):=λr hr c=>by
  unfold zP;rw[QK (by rw[ag,wu,hr]),Mg];unfold m6;rw[Mg]
 refine R.step (t:=ps.length) (aj _) (by rw[av,bD];lia) (by rw[ek];exact hne) ?_ ?_ λi hi c=>?_
 ·rw[av,av,ag,ag,bH];lia
 ·intro xs hx;rcases az.mp hx with hx | hx
  ·rcases az.mp hx with hx | hx
   ·obtain ⟨r,hr,rfl⟩:=aw.mp hx;exact wl r (wide r (az.mpr (.inl hr)))
   ·rw[cb.mp hx];exact wu
  ·obtain ⟨r,hr,rfl⟩:=aw.mp hx;exact wl r (wide r (az.mpr (.inr (.tail _ hr))))
 ·rw[M5,ek]
  dsimp only
  have lf:(fs.map (zP P (m6 P hd))).length=ps.length:=by rw[ag];exact hf
  have key:∀{X:LR9} {s:Nat} (hs:s < X.length) (_:∀r∈X,r.length=n),br (X.map (zP P (m6 P hd))) s c=br X s c - br X s P*(1 / hd.getD P 0*hd.getD c 0):=λ{X s} hs hX=>by
   unfold br;have e1:(X.map (zP P (m6 P hd))).getD s []=zP P (m6 P hd) X[s]:=by rw[aa,aD,af hs];rfl
   have e2:X.getD s []=X[s]:=by rw[aa,af hs];rfl
   rw[e1,e2];exact vl _ (hX _ (aE hs)) c
  rcases dZ i ps.length with z | z | z
  ·rw[if_neg (by lia),cz,yB (by lia),yB (by lia),key (by lia) λr hr=>wide r (az.mpr (.inl hr))]
  ·rw[if_pos z,cz,show i=(fs.map (zP P (m6 P hd))).length+0 by lia,qA];show (m6 P hd).getD c 0=_
   unfold m6;rw[Mg]
  ·rw[if_neg (by lia)];obtain ⟨j,rfl⟩:∃j,i=ps.length+1+j:=⟨i - ps.length - 1,by lia⟩
   have e1:br (fs++hd :: l2) (ps.length+1+j)=br l2 j:=by
    have:=qA (X:=fs) (Y:=hd :: l2) (i:=j+1);rw[show fs.length+(j+1)=ps.length+1+j by lia] at this;rw[this];rfl
   have e2:br ((fs.map (zP P (m6 P hd))++[m6 P hd])++l2.map (zP P (m6 P hd))) (ps.length+1+j)=br (l2.map (zP P (m6 P hd))) j:=by
    have:=qA (X:=fs.map (zP P (m6 P hd))++[m6 P hd]) (Y:=l2.map (zP P (m6 P hd))) (i:=j);rw[av,lf,bH] at this;exact this
   rw[e1,e2,key (by lia) λr hr=>wide r (az.mpr (.inr (.tail _ hr)))]
end
theorem vF {α β:Type} {F:α->β->Prop}:∀{l1:List α} {l2:List β} (_:Paired F l1 l2) (i:Nat),Paired F (l1.eraseIdx i) (l2.eraseIdx i)
 | _,_,.nil,_=>.nil
 | _,_,.cons _ r,0=>r
 | _,_,.cons h r,i+1=>.cons h (vF r i)
theorem Qs:c∈F2 xs i↔c < i/\xs.getD c 0≠0:=by
 unfold F2;rw[lG,nB];simp
theorem bo.toE {K:FG9} (h:bo K H0 H l rows):∃us,H l=some (.lst us)/\Paired (oa K (λq=>H0 q=none/\q≠l) H) rows us:=by
 obtain ⟨us,g,pr,nn⟩:=h;exact ⟨us,g,rV (λxs v hv ⟨q,e,a,b⟩=>⟨q,e,⟨a,λz=>nn (by rw[<- z,<- e];exact hv)⟩,b⟩) pr⟩
theorem CO {α:Type} {v:α}:∀{l:List α},l.Nodup->v∉l->∀j,(l.set j v).Nodup
 | [],_,_,_=>nA
 | a :: l,h,hn,0=>by
  rw[d9] at h;rw[List.set_cons_zero,d9];exact ⟨λz=>hn (.tail _ z),h.2⟩
 | a :: l,h,hn,j+1=>by
  rw[d9] at h;rw[List.set_cons_succ,d9];refine ⟨λz=>?_,CO h.2 (λz=>hn (.tail _ z)) j⟩;rcases cH z with z | z
  ·exact h.1 z
  ·exact hn (by rw[z];exact .head _)
structure jv (K:FG9) (A:Addr->Prop) (H:Hp) (n:Nat) (C:V->Rat->Prop) (m p l b q0:Addr) (us ws vs:List V):Prop where
 bag:ip H b
 inn:Inner H b q0
 gm:H m=some (.lst us)
 gp:H p=some (.lst ws)
 gl:H l=some (.lst vs)
 lm:us.length=n
 row:∀x∈us++vs++ws,fw K A H n (C x) x
 nd:(us++vs++ws).Nodup
section
variable {K:FG9} {A:Addr->Prop} {H H':Hp} {n:Nat} {C C':V->Rat->Prop} {m p l b q0 q:Addr} {us ws vs zs:List V} {y:Rat} {v:V}
theorem jv.same (h:jv K A H n C m p l b q0 us ws vs) (e:aH H H'):jv K A H' n C m p l b q0 us ws vs :=
 ⟨h.bag.same e,(e.upto (p:=b)).2 _ h.inn,e _ _ h.gm,e _ _ h.gp,e _ _ h.gl,h.lm,λx hx=>(h.row x hx).same e,h.nd⟩
theorem jv.upto (h:jv K A H n C m p l b q0 us ws vs) (M:GQ A m p l b q0) (u:c5 b H H') (B':ip H' b):jv K A H' n C m p l b q0 us ws vs :=
 ⟨B',u.2 _ h.inn,u.other M.mb h.gm,u.other M.pb h.gp,u.other M.lb h.gl,h.lm,λx hx=>(h.row x hx).upto u h.bag M.ab,h.nd⟩
theorem jv.weak (h:jv K A H n C m p l b q0 us ws vs) (w:∀x∈us++vs++ws,∀y,C x y->C' x y):jv K A H n C' m p l b q0 us ws vs :=
 ⟨h.bag,h.inn,h.gm,h.gp,h.gl,h.lm,λx hx=>(h.row x hx).weak (λ_ z=>z) (w x hx),h.nd⟩
theorem jv.put (h:jv K A H n C m p l b q0 us ws vs) (M:GQ A m p l b q0) (aq:A q) (hq:H q=some (.lst zs)) (hv:cB K H y v) (hc:C (.ref q) y) (j:Nat):jv K A (upd H q (.lst (zs.set j v))) n C m p l b q0 us ws vs:=by
 have ne:∀{z},¬A z->z≠q:=λh e=>h (by rw[e];exact aq)
 refine ⟨h.bag.upd h.inn (ne M.ab).symm (ne M.aq).symm,h.inn.upd (ne M.ab).symm,by rw[bN (ne M.am)];exact h.gm,by rw[bN (ne M.ap)];exact h.gp,by rw[bN (ne M.al)];exact h.gl,h.lm,λx hx=>?_,h.nd⟩;by_cases e:x=.ref q
 ·subst e;exact (h.row _ hx).put hq hv hc j
 ·obtain ⟨q1,qs,rfl,a1,r1,l1,c1⟩:=h.row x hx;exact ⟨q1,qs,rfl,a1,r1.updL hq (λz=>e (by rw[z])),l1,c1⟩
theorem jv.set (h:jv K A H n C m p l b q0 us ws vs) (M:GQ A m p l b q0) (hx:fw K A H n (C v) v) (hn:v∉us++vs++ws) (j:Nat):jv K A (upd H m (.lst (us.set j v))) n C m p l b q0 (us.set j v) ws vs:=by
 have mem:∀x∈us.set j v++vs++ws,x=v\/x∈us++vs++ws:=λx hx=>by
  rcases az.mp hx with hx | hx
  ·rcases az.mp hx with hx | hx
   ·rcases cH hx with hx | hx
    ·exact .inr (by simp [hx])
    ·exact .inl hx
   ·exact .inr (by simp [hx])
  ·exact .inr (by simp [hx])
 refine ⟨h.bag.upd h.inn M.mb M.mq,h.inn.upd M.mb,aM,by rw[bN M.mp.symm];exact h.gp,by rw[bN M.ml.symm];exact h.gl,by rw[ee];exact h.lm,λx hx'=>?_,?_⟩
 ·rcases mem x hx' with rfl | hx'
  ·exact hx.other h.gm M.am
  ·exact (h.row x hx').other h.gm M.am
 ·have nd:=h.nd;rw[cz] at nd hn ⊢;obtain ⟨n1,n2,n3⟩:=dE.mp nd;refine dE.mpr ⟨?_,n2,λa ha c hc=>?_⟩
  ·rcases bV j us.length with z | z
   ·exact CO n1 (λz'=>hn (az.mpr (.inl z'))) j
   ·rw[List.set_eq_of_length_le z];exact n1
  ·rcases cH ha with ha | rfl
   ·exact n3 a ha c hc
   ·exact λz=>hn (az.mpr (.inr (by rw[z];exact hc)))
end
theorem Jr (h0:0 < M) (h1:M<=2^800) (hW:W<=2^140) (h:Fr M W x):mQ x :=
 Ie h0 (ai h1 (ao (by decide) (by decide))) (ai hW (ao (by decide) (by decide))) h
theorem NP {t V c:Nat} (ht:t<=3) (hV:V<=2^20) (hc:c<=9):c*(9^t*V)<=2^140:=by
 have h1:9^t<=9^3:=ao (by decide) ht;have h2:c*(9^t*V)<=9*(9^3*2^20):=aJ hc (aJ h1 hV);exact ai h2 (ai (show 9*(9^3*2^20)<=2^40 by decide) (ao (by decide) (by decide)))
theorem pR {α:Type} {l:List α} {v:α} (h:l.Nodup) (hn:v∉l):(l++[v]).Nodup:=dE.mpr ⟨h,by simp,λa ha c hc=>by rw[cb.mp hc];exact λz=>hn (by rw[<- z];exact ha)⟩
section
variable {K:FG9} {a:Addr} {xs:List V} {g:TG} {tf:TT} {te:TE} {Q:VK} {σ₀:St} {H:Hp} {α β:Type}
theorem De (G:Hp->β->V->Prop) (C:β->Prop) (hB:ip H b) (hl:n<=1000) (hG:∀{H' H'' c x},G H' c x->c5 b H' H''->ip H' b->G H'' c x)
  (hA:∀{H' c x},G H' c x->∃q,x=V.ref q/\H' q≠none)
  (hs:∀(i:Nat) H' NY NN,i < n->c5 b H H'->ip H' b->(∀y c H2,c5 b H' H2->ip H2 b->C c->G H2 c y->(∃q,y=V.ref q/\H' q=none)->NY y H2)->qV σ₀ g tf te (.int i) H' NY NN)
  (hd:∀ys cs H' p,H p=none->c5 b H H'->ip H' b->H' p=some (.lst ys)->cs.length=n->ys.Nodup->(∀c∈cs,C c)->Paired (G H') cs ys->(∃H2,H2 p=none/\Paired (G H2) cs ys)->Q (.ref p) H'):sY (GV 0 n) σ₀ g tf te Q H:=by
 refine mK (λi ys H'=>c5 b H H'/\ip H' b/\∃cs,cs.length=i/\ys.Nodup/\(∀c∈cs,C c)/\Paired (G H') cs ys) (aT (bO (by lia))) ⟨(aH.refl _).upto,hB,[],rfl,nA,(λ_ z=>nomatch z),.nil⟩ ?_ ?_
 ·rintro i ys H' hi hlen ⟨u,B,cs,lc,nd,hc,pr⟩;rw[tw];refine hs i H' _ _ hi u B λy c H2 u2 B2 cc gy ⟨q,ey,nq⟩=>⟨u.trans u2,B2,cs++[c],by simp [lc],pR nd (λz=>by obtain ⟨c',_,gc⟩:=dd pr z;obtain ⟨q',e',h'⟩:=hA gc;rw[ey] at e';cases e';exact h' nq),E7 hc cc,cg (Paired.imp' (λ_ _ z=>hG z u2 B) pr) (.cons gy .nil)⟩
 ·rintro ys H' hy ⟨u,B,cs,lc,nd,hc,pr⟩ p hp;have s:aH H' (upd H' p (.lst ys)):=aH.new hp;exact hd ys cs _ p (u.none B hp) (u.same s) (B.same s) aM lc nd hc (Paired.imp' (λ_ _ z=>hG z s.upto B) pr) ⟨H',hp,pr⟩
end
structure Im (K:FG9) (A:Addr->Prop) (n:Nat) (C:Rat->Prop) (m p l b q0:Addr) (us ws vs:List V) (H0 H:Hp):Prop where
 mix:jv K A H n (λ_=>C) m p l b q0 us ws vs
 gp:H p=some (.lst ws)
 gl:H l=some (.lst vs)
 kp:ik A b m H0 H
section
variable {K:FG9} {A:Addr->Prop} {n:Nat} {C:Rat->Prop} {m p l b q0 q:Addr} {us ws vs:List V} {H0 H H':Hp} {y:Rat} {v:V}
theorem Im.same (h:Im K A n C m p l b q0 us ws vs H0 H) (e:aH H H'):Im K A n C m p l b q0 us ws vs H0 H':=⟨h.mix.same e,e _ _ h.gp,e _ _ h.gl,h.kp.same e⟩
theorem Im.upto (h:Im K A n C m p l b q0 us ws vs H0 H) (M:GQ A m p l b q0) (u:c5 b H H') (B:ip H' b):Im K A n C m p l b q0 us ws vs H0 H':=⟨h.mix.upto M u B,u.other M.pb h.gp,u.other M.lb h.gl,h.kp.upto u⟩
theorem Im.row (h:Im K A n C m p l b q0 us ws vs H0 H) (hx:x∈ws\/x∈vs):fw K A H n C x:=h.mix.row x (by rcases hx with hx | hx <;> simp [hx])
theorem Im.put (h:Im K A n C m p l b q0 us ws vs H0 H) (M:GQ A m p l b q0) (hx:V.ref q∈ws\/V.ref q∈vs) (hv:cB K H y v) (hc:C y) (j:Nat):∃zs,H q=some (.lst zs)/\zs.length=n/\Im K A n C m p l b q0 us ws vs H0 (upd H q (.lst (zs.set j v))):=by
 obtain ⟨q',zs,qs,e,a,g,lz,_⟩:=(h.row hx).at;cases e;have ne:∀{z},¬A z->z≠q:=λh e=>h (by rw[e];exact a)
 exact ⟨zs,g,lz,h.mix.put M a g hv hc j,by rw[bN (ne M.ap)];exact h.gp,by rw[bN (ne M.al)];exact h.gl,h.kp.upd (.inl a)⟩
end
inductive Fz (K:FG9) (vs:List V) (H:Hp) (Q:VK) (E9:XK):Prop
 | mk (b:Addr) (n w:Nat) (way first:Int):vs=[.ref b,.int n,.int way,.int first,.int w]->ip H b->n<=8->1<=w->w<=1000000->(∀r us H',H r=none->H' r=some (.lst us)->us.length=n->us.Nodup->(∀x∈us,fw K (λq=>H q=none/\q≠r) H' n (Dr (max w 6)) x)->ip H' b->c5 b H H'->Q (.ref r) H')->Fz K vs H Q E9
def PtF (n i o w c:Nat) (mv pt lk:LR9):Prop:=∃M V1:Nat,0 < M/\GF M V1 mv/\GF M V1 pt/\GF M V1 lk/\((w<=9/\M=2520/\V1=9^3*9)\/(9 < w/\M<=2^(c*((n+i+o)*n))/\V1=9^3*2^c))
inductive FA (K:FG9) (vs:List V) (H:Hp) (Q:VK) (E9:XK):Prop
 | mk (b:Addr) (n:Nat):vs=[.ref b,.int n]->ip H b->1<=n->n<=8->(∀r mv pt lk H',eo K H H' r mv pt lk->mv.length=n->pt.length=1->lk.length=1->dr mv pt lk->GF 1 1 mv->GF 1 1 pt->GF 1 1 lk->ip H' b->c5 b H H'->Q (.ref r) H')->FA K vs H Q E9
theorem EK (M0:0 < M) (hM:M<=2^a) (hn:mv.length<=n0) (hV:(n0+1)*V1<=2^c) (fm:GF M V1 mv) (fp:GF M V1 pt) (h4:a<=400/\c<=40/\n0*(n0*(a+c)+4)<=1740/\n0*(n0*(n0*(a+c)+4)+a+c+4)<=8900):og mv pt a c:=by
 obtain ⟨h1,h2,h3,h5⟩:=h4;have e1:mv.length*(a+c)<=n0*(a+c):=ay _ hn;have e2:mv.length*(mv.length*(a+c)+4)<=n0*(n0*(a+c)+4):=aJ hn (by lia);have e3:mv.length*(mv.length*(mv.length*(a+c)+4)+a+c+4)<=n0*(n0*(n0*(a+c)+4)+a+c+4):=aJ hn (by lia);exact ⟨M,V1,M0,hM,ai (ay _ (by lia)) hV,fm,fp,h1,h2,by lia,by lia⟩
def Na (K:FG9):Sp:=λvs H Q _=>∃b:Addr,vs=[.ref b]/\ip H b /\
 ∀r mv pt lk H',eo K H H' r mv pt lk->6<=mv.length->dr mv pt lk->GF 1 (9^3) mv->GF 1 (9^3) pt->GF 1 (9^3) lk->ip H' b->c5 b H H'->Q (.ref r) H'
theorem F8 (lm:mv.length=n) (wm:∀xs∈mv,xs.length=n) (wp:∀xs∈pt,xs.length=n) (RR:aO (kry mv pt t) n R ps) (RR':aO (kry mv pt (t+1)) n R' ps'):aO (pt++R.map (ow mv)) n R' ps':=by
 have wk:=fb (mv:=mv) lm wp t;refine ⟨RR'.1,RR'.2.1,RR'.2.2.other ?_ ?_⟩
 ·refine vn (λi hi=>qY hi) λi hi=>oq ?_
  rw[ag] at hi;have:=RR.2.2.span i hi;rw[<- RR.1] at this;exact Af lm wm wk RR.2.1 hi this
 ·refine vn (λi hi=>qY hi) λi hi=>oq ?_
  rw[ag] at hi;exact Af lm wm RR.2.1 wk hi (RR.2.2.back i (by rw[<- RR.1];exact hi))
theorem OS {F G:List iU->Rat} {r:Nat} {σ:Nat->Nat} (hF:∀ws:List iU,F (ws.map λv i=>v (σ i))=G ws):∀(post pre:List iU) (s:Rat),BQ F r (pre.map λv i=>v (σ i)) (post.map λv i=>v (σ i)) s=BQ G (σ r) pre post s
 | [],_,_=>rfl
 | v :: post,pre,s=>by
  have i1:=hF (pre++post);have i2:=OS (r:=r) hF post (pre++[v]) (-s);simp only[b9,gN,List.map_nil,BQ] at i1 i2 ⊢;rw[i1,i2]
theorem O4 {σ:Nat->Nat}:∀(rs:List Nat) (vs:List iU),qR rs (vs.map λv i=>v (σ i))=qR (rs.map σ) vs
 | [],[]=>rfl
 | [],_ :: _=>rfl
 | r :: rs,vs=>OS (λws=>O4 rs ws) vs [] 1
theorem Li {σ:Nat->Nat}:∀{k:Nat},(xX (λi=>i) k).map σ=xX σ k
 | 0=>rfl
 | k+1=>by show σ k :: _=_;rw[Li];rfl
theorem cw_map {τ:iU->iU} {v:Nat->iU}:∀{k:Nat},(qj v k).map τ=qj (λj=>τ (v j)) k
 | 0=>rfl
 | k+1=>by show τ (v k) :: _=_;rw[cw_map];rfl
theorem QN:qR (xX σ k) (qj v k)=qR (xX (λi=>i) k) (qj (λj i=>v j (σ i)) k):=by
 rw[<- Li,<- O4,cw_map]
structure Vb (r n:Nat) (Pm Y Z:Nat->Nat->Rat) (d:Rat) (W:Nat):Prop where
 d0:d≠0
 det:d=qR (xX (λi=>i) r) (qj (λj i=>Pm i j) r)
 eq:∀i,i < r->∀c,c < n->Z i c=be r λs=>Pm i s*Y s c
 pf:∀i,i < r->∀s,s < r->Fr 1 W (Pm i s)
 zf:∀i,i < r->∀c,c < n->Fr 1 W (Z i c)
section
variable {rows fs ls:LR9} {n r M W Wv Wb k P:Nat} {Pm Y Z B E a:Nat->Nat->Rat} {d:Rat} {ps:List Nat} {rs:LR9}
def Rh (rows:LR9) (n S:Nat):Prop:=2*S<=3990/\∃J:Nat->LR9->List Nat->Prop,J 0 rows []/\(∀P rs ps,J P rs ps->(∀i,ps.length<=i->i < rs.length->br rs i P=0)->J (P+1) rs ps) /\
 (∀P fs ls ps t,J P (fs++ls) ps->fs.length=ps.length->t < ls.length->P < n->(ls.getD t []).getD P 0≠0->J (P+1) ((fs.map (zP P (m6 P (ls.getD t [])) )++[m6 P (ls.getD t [])])++(ls.eraseIdx t).map (zP P (m6 P (ls.getD t [])))) (ps++[P])) /\
 (∀P rs ps,J P rs ps->Aa rows n P rs ps)/\∀P rs ps,J P rs ps->P<=n->∀i,i < rows.length->∃D:Nat,0 < D/\D<=2^S/\∀c,Tp D (2^S) (br rs i c)
theorem Ov.lws {w a:Nat} (F:Ov rows n w a) (hw:∀xs∈rows,xs.length=n):Rh rows n (min rows.length n*(w+4)+a):=by
 obtain ⟨_,_,_,_,_,_,_,_,e⟩:=id F;refine ⟨e,Aa rows n,Aa.start hw,λ_ _ _ h z=>h.skip z,λ_ _ _ _ _ h hf ht hP hne=>h.lean hf ht hP hne,λ_ _ _ h=>h,λP rs ps h hP i hi=>?_⟩;obtain ⟨D,D0,D1,D2⟩:=h.sz F hP hi;exact ⟨D,D0,D1,λc=>(D2 c).mono (ao (by decide) (by lia))⟩
end
section
variable {rows R R1 R2 mv pt:LR9} {n r M V1 W W' Wv Wb k P:Nat} {Pm Y Z B E a:Nat->Nat->Rat} {d:Rat} {ps ps1 ps2:List Nat} {rs:LR9}
theorem KP (h0:0 < M) (h3:∀xs∈rows,∀x∈xs,Tp M W x):∀i,i < rows.length->∀c,Fr 1 W (dU (rows.map gK) i c):=λi hi c=>by
 have hx:=getD_in (e:=[]) hi;rw[yE hi];unfold br;generalize rows.getD i []=xs at hx ⊢;by_cases hc:c < xs.length
 ·have t:=h3 xs hx _ (getD_in (e:=0) hc);obtain ⟨s,e,b⟩:=xy t h0 (oI (xs:=xs)) (oJ (aw.mpr ⟨_,getD_in (e:=0) hc,rfl⟩)) (z9 h0 (h3 xs hx));rw[b6,e];exact Fr.int b
 ·rw[aa,aS (by lia)];show Fr 1 W (_*0)
  rw[cL];exact Fr.zero
theorem Vb.of (hw:∀xs∈rows,xs.length=n) (hW:1<=W) (h0:0 < M) (h3:∀xs∈rows,∀x∈xs,Tp M W x) (RR:aO rows n R ps):∃Pm Z d,Vb ps.length n Pm (br R) Z d W:=by
 have ent:=KP h0 h3;obtain ⟨ls,ps2,d,I⟩:=xE hw hW (by rw[ag];exact ent) n (aj _);obtain ⟨_,_,⟨pm,B⟩,E⟩:=I;rw[ag] at B E
 have RF:DA rows.length n (br rows) ps2.length (λj=>ps2.getD j 0) (λi c=>dU ls i c / d):=DA.other (E.done λi hi c hc=>uX (n:=n) (λzs hz=>by
  obtain ⟨xs,hx,rfl⟩:=aw.mp hz;rw[oi];exact hw xs hx) hc) zT zU
 obtain ⟨e1,e2,e3⟩:=RF.uniq RR.2.2 (λ_ hi=>eG.row hi) (λ_ hi=>eG.row hi);refine ⟨λi s=>dU (rows.map gK) (pm i) (ps2.getD s 0),λi c=>dU (rows.map gK) (pm i) c,d,?_⟩;rw[<- e1];have km:=B.km;refine ⟨B.d0,?_,λi hi c hc=>?_,λi hi s hs=>ent _ (B.rng i (by lia)) _,λi hi c hc=>ent _ (B.rng i (by lia)) _⟩
 ·rw[B.det];exact QN
 ·have:=B.coef (i:=i) (c:=c) (by lia);rw[if_pos hi,iD] at this;rw[this];exact aA λs hs=>by rw[<- e3 s hs c];exact b6 _ _
theorem oo {f:Nat->Rat} {a:Nat}:∀{b:Nat},be (a+b) f=be a f+be b λt=>f (a+t)
 | 0=>by show be a f=be a f+0;grind
 | b+1=>by
  show be (a+b) f+f (a+b)=_+(be b _+f (a+b))
  rw[oo];grind
end
section
variable {rows R R1 R2 mv pt:LR9} {n t t2 a c:Nat} {ps ps1 ps2:List Nat}
theorem vz (RR:aO rows n R ps):aO R n R ps:=⟨RR.1,RR.2.1,RR.2.2.other (λi hi=>by rw[RR.1];exact RR.2.2.span i hi) (λi hi=>RR.2.2.back i (by rw[<- RR.1];exact hi))⟩
theorem Ni (RR:aO rows n R ps) (e:ps.length=n) (hi:i < n) (c:Nat):br R i c=if c=i then 1 else 0:=by
 have lo:∀j,j < n->j<=ps.getD j 0:=by
  intro j
  induction j with
  | zero=>intro _;exact bL _
  | succ j ih =>
   intro hj;have:=ih (by lia);have:=RR.2.2.inc j (j+1) (by lia) (by lia)
   lia
 have hi2:∀s j,j+s+1=n->ps.getD j 0<=j:=by
  intro s
  induction s with
  | zero =>
   intro j hj;have:=RR.2.2.low j (by lia)
   lia
  | succ s ih =>
   intro j hj;have:=ih (j+1) (by lia);have:=RR.2.2.inc j (j+1) (by lia) (by lia)
   lia
 have ep:∀j,j < n->ps.getD j 0=j:=λj hj=>MP (hi2 (n - 1 - j) j (by lia)) (lo j hj)
 by_cases hc:c < n
 ·have:=RR.2.2.unit i (by lia) c (by lia);rw[ep c hc] at this;rw[this];by_cases z:i=c
  ·rw[if_pos z,if_pos z.symm]
  ·rw[if_neg z,if_neg (Ne.symm z)]
 ·rw[qh RR.2.1 (by lia),if_neg (by lia)]
theorem EU (h:∀i,i < rows.length->∀c,Tp M W (br rows i c)):∀xs∈rows,∀x∈xs,Tp M W x:=λxs hx x hx'=>by
 obtain ⟨i,hi,rfl⟩:=aK hx;obtain ⟨c,hc,rfl⟩:=aK hx';have:=h i hi c;unfold br at this;rw[aa (l:=rows),af hi] at this;have e:(some rows[i]).getD []=rows[i]:=rfl;rw[e,aa,af hc] at this;exact this
theorem og.vb (F:og mv pt a c) (wm:∀xs∈mv,xs.length=mv.length) (wp:∀xs∈pt,xs.length=mv.length) (ht:t<=ps.length) (RR:aO (kry mv pt t) mv.length R ps):∃Pm Z d w,Vb ps.length mv.length Pm (br R) Z d (2^w)/\(ps.length < mv.length/\w=(mv.length - 1)*(a+c)\/ps.length=mv.length/\w=0):=by
 have le:=RR.le;rcases bV ps.length mv.length with z | z
 ·obtain ⟨M,V,M0,Ma,hV,fm,fp,_⟩:=F;have f:=LV rfl wm wp hV fm fp t
  obtain ⟨Pm,Z,d,vb⟩:=Vb.of (fb rfl wp t) (bI (n:=(mv.length - 1)*(a+c))) (mL M0 (n:=t)) (λxs hx x hx'=>Tp.of (f xs hx x hx') (by
   refine ai (aY _ (kn Ma t)) ?_;rw[<- xo,<- bg];refine ao (by decide) ?_;rw[<- DB,cw,nk c];exact ay _ (by lia))) RR
  exact ⟨Pm,Z,d,_,vb,.inl ⟨z,rfl⟩⟩
 ·have e:ps.length=mv.length:=by lia
  obtain ⟨Pm,Z,d,vb⟩:=Vb.of (W:=2^0) (M:=1) RR.2.1 (by decide) (by decide) (EU λi hi c=>by
   rw[RR.1,e] at hi;rw[Ni RR e hi c]
   split
   ·exact ⟨1,by rw[fL];rfl,by decide⟩
   ·exact ⟨0,by rw[dw];rfl,by decide⟩) (vz RR)
  exact ⟨Pm,Z,d,0,vb,.inr ⟨e,rfl⟩⟩
end
inductive Al (K:FG9) (vs:List V) (H:Hp) (Q:VK) (E9:XK):Prop
 | mk (p:Addr) (n S:Nat) (H0:Hp) (rows:LR9):vs=[.ref p,.int n]->bo K H0 H p rows->rows.length<=100->n<=100->(∀xs∈rows,xs.length=n)->Rh rows n S->(∀r R ps H',H r=none->aH H H'->bo K H H' r R->aO rows n R ps->ps.length<=rows.length->Q (.ref r) H')->Al K vs H Q E9
section
variable {K:FG9} {a:Addr} {xs:List V} {g:TG} {tf:TT} {te:TE} {Q:VK} {σ₀:St} {H:Hp} {α β:Type}
theorem Dc {F:Hp->α->V->Prop} (G:Hp->β->V->Prop) (f:α->β) (hx:H a=some (.lst xs)) (pf:Paired (F H) as xs) (hl:as.length<=1000)
  (hF:∀{H H' c x},F H c x->aH H H'->F H' c x) (hG:∀{H H' c x},G H c x->aH H H'->G H' c x) (hA:∀{H' c x},G H' c x->∃q,x=V.ref q/\H' q≠none)
  (hs:∀(i:Nat) c x H' NY NN,as[i]?=some c->aH H H'->F H' c x->(∀y H2,aH H' H2->G H2 (f c) y->(∃q,y=V.ref q/\H' q=none)->NY y H2)->qV σ₀ g tf te x H' NY NN)
  (hd:∀ys H' p,H p=none->aH H H'->H' p=some (.lst ys)->ys.Nodup->(∀y∈ys,∃q,y=V.ref q/\H q=none/\q≠p)->Paired (G H') (as.map f) ys->Q (.ref p) H'):sY (Ow K a) σ₀ g tf te Q H:=by
 have lx:=pf.length;refine dJ (K:=K) (xs:=xs) (λi ys H'=>aH H H'/\ys.Nodup/\(∀y∈ys,∃q,y=V.ref q/\H q=none)/\Paired (G H') ((as.take i).map f) ys) (aT (bO (by lia))) ⟨aH.refl _,nA,(λ_ z=>nomatch z),.nil⟩ (λi ys H' _ ⟨s,_⟩=>bU.of (s _ _ hx)) ?_ ?_
 ·rintro i x ys H' hx' hlen ⟨s,nd,hn,pr⟩;obtain ⟨c,ec,hc⟩:=cX pf hx';refine hs i c x H' _ _ ec s (hF hc s) λy H2 s2 gy ⟨q,ey,nq⟩=>⟨s.trans s2,pR nd (λz=>?_),E7 hn ⟨q,ey,s.none nq⟩,?_⟩
  ·obtain ⟨c',_,gc⟩:=dd pr z;obtain ⟨q',e',h'⟩:=hA gc;rw[ey] at e';cases e';exact h' nq
  ·rw[take_snoc ec,b9];exact cg (Paired.imp' (λ_ _ z=>hG z s2) pr) (.cons gy .nil)
 ·rintro ys H' hy ⟨s,nd,hn,pr⟩ p hp;rw[aL (by lia)] at pr;refine hd ys _ p (s.none hp) (s.trans (aH.new hp)) aM nd (λy hy=>?_) (Paired.imp' (λ_ _ z=>hG z (aH.new hp)) pr);obtain ⟨q,e,nq⟩:=hn y hy;refine ⟨q,e,nq,λz=>?_⟩;obtain ⟨c',_,gc⟩:=dd pr hy;obtain ⟨q',e',h'⟩:=hA gc;rw[e] at e';cases e';exact h' (by rw[z];exact hp)
end
structure S6 (K:FG9) (H0 H:Hp) (n:Nat) (fd:Addr) (L:List (Addr×List V)):Prop where
 gf:H fd=some (.lst (L.map λe=>V.ref e.1))
 nf:H0 fd=none
 ls:∀e∈L,H0 e.1=none/\e.1≠fd/\H e.1=some (.lst e.2)
 nd:(L.map λe=>e.1).Nodup
 rows:∀e∈L,∀x∈e.2,fw K (λq=>(H0 q=none/\q≠fd)/\q∉L.map λe=>e.1) H n (Fr 1 1) x
 rd:(L.flatMap λe=>e.2).Nodup
section
variable {K:FG9} {H0 H H1:Hp} {n:Nat} {fd q:Addr} {L:List (Addr×List V)} {us:List V}
theorem S6.snoc (h:S6 K H0 H n fd L) (s0:aH H0 H) (s:aH H H1) (hq:H q=none) (gq:H1 q=some (.lst us)) (nd:us.Nodup) (hr:∀x∈us,fw K (λz=>H z=none/\z≠q) H1 n (Fr 1 1) x):S6 K H0 (upd H1 fd (.lst ((L.map λe=>V.ref e.1)++[.ref q]))) n fd (L++[(q,us)]):=by
 have qf:q≠fd:=λz=>by rw[z,h.gf] at hq;cases hq
 have old:∀{z},z∈(L.map λe=>e.1)->H z≠none:=λhz=>by
  obtain ⟨e,he,rfl⟩:=aw.mp hz;rw[(h.ls e he).2.2];exact λz=>nomatch z
 have g1:=s _ _ h.gf;refine ⟨by rw[aM,b9];rfl,h.nf,λe he=>?_,?_,λe he x hx=>?_,?_⟩
 ·rcases az.mp he with he | he
  ·obtain ⟨a,b,c⟩:=h.ls e he;exact ⟨a,b,by rw[bN b];exact s _ _ c⟩
  ·rw[cb.mp he];exact ⟨s0.none hq,qf,by rw[bN qf];exact gq⟩
 ·rw[b9];exact pR h.nd λz=>old z hq
 ·have key:fw K (λz=>(H0 z=none/\z≠fd)/\z∉(L++[(q,us)]).map λe=>e.1) H1 n (Fr 1 1) x:=by
   rcases az.mp he with he | he
   ·obtain ⟨z,qs,e1,⟨e2,e3⟩,e4,e5⟩:=h.rows e he x hx;refine ⟨z,qs,e1,⟨e2,λhz=>?_⟩,e4.same s,e5⟩;rw[b9] at hz;rcases az.mp hz with hz | hz
    ·exact e3 hz
    ·have hz:z=q:=cb.mp hz;obtain ⟨_,gg,_⟩:=e4;rw[hz,hq] at gg;cases gg
   ·rw[cb.mp he] at hx;refine (hr x hx).weak (λz hz=>⟨⟨s0.none hz.1,λy=>by rw[y] at hz;rw[h.gf] at hz;exact absurd hz.1 (λw=>nomatch w)⟩,λy=>?_⟩) (λ_ w=>w);rw[b9] at y;rcases az.mp y with y | y
    ·exact old y hz.1
    ·exact hz.2 (cb.mp y)
  exact key.other g1 (λz=>z.1.2 rfl)
 ·rw[List.flatMap_append];refine dE.mpr ⟨h.rd,by simpa using nd,λx hx y hy z=>?_⟩;obtain ⟨e,he,hx⟩:=List.mem_flatMap.mp hx;obtain ⟨w,qs,e1,_,⟨_,gg,_⟩,_⟩:=h.rows e he x hx;obtain ⟨w',_,e1',⟨hw,_⟩,_⟩:=hr y (by simpa using hy);rw[<- z,e1] at e1';cases e1';rw[hw] at gg;cases gg
end
def Gd (mv pt:LR9) (i:Nat) (R:LR9) (ps:List Nat):Prop:=aO (kry mv pt i) mv.length R ps/\∃t,t<=ps.length/\t<=i/\aO (kry mv pt t) mv.length R ps/\(t=i\/∀s,aO (kry mv pt (t+s)) mv.length R ps)
section
variable {mv pt R R':LR9} {i:Nat} {ps ps':List Nat}
theorem Gd.start:Gd mv pt 0 [] []:=⟨HF,0,aj _,aj _,HF,.inl rfl⟩
theorem Lg (wm:∀xs∈mv,xs.length=mv.length) (wp:∀xs∈pt,xs.length=mv.length) (h:aO (kry mv pt i) mv.length R ps) (h':aO (kry mv pt (i+1)) mv.length R' ps') (e:ps'.length=ps.length):∀s,aO (kry mv pt (i+s)) mv.length R ps:=CT rfl wm wp h (F8 rfl wm wp h h') e
theorem Gd.step (wm:∀xs∈mv,xs.length=mv.length) (wp:∀xs∈pt,xs.length=mv.length) (h:Gd mv pt i R ps) (h':aO (kry mv pt (i+1)) mv.length R' ps'):Gd mv pt (i+1) R' ps'/\(mv.length<=i->R'=R):=by
 obtain ⟨h0,t,t1,t2,ht,hs⟩:=h
 have st:(∀s,aO (kry mv pt (t+s)) mv.length R ps)->Gd mv pt (i+1) R' ps'/\(mv.length<=i->R'=R):=λhs=>by
  have:=hs (i+1 - t);rw[show t+(i+1 - t)=i+1 by lia] at this;obtain ⟨rfl,rfl⟩:=this.same h';exact ⟨⟨h',t,t1,by lia,ht,.inr hs⟩,λ_=>rfl⟩
 rcases hs with rfl | hs
 ·have gr:=F7 rfl wm wp h0 h';by_cases e:ps'.length=ps.length
  ·exact st (Lg wm wp h0 h' e)
  ·refine ⟨⟨h',t+1,by lia,aj _,h',.inl rfl⟩,λhn=>?_⟩;have:=h'.le
   lia
 ·exact st hs
theorem Gd.late (h:Gd mv pt i R ps) (hi:mv.length < i) (hj:mv.length<=j):aO (kry mv pt j) mv.length R ps:=by
 obtain ⟨h0,t,t1,t2,ht,hs⟩:=h;have le:=h0.le;rcases hs with rfl | hs
 ·lia
 ·have:=hs (j - t);rwa [show t+(j - t)=j by lia] at this
end
section
variable {rows R X K0:LR9} {due L:List Rat} {n m M W D E W0 W1:Nat} {ps:List Nat}
theorem Mt (hl:vs.length<=N) (h:∀v∈vs,∀r∈rs,Fr 1 Wx (v r)):∃z:Int,qR rs vs=(z:Rat)/\z.natAbs<=(N*Wx)^rs.length:=by
 have f:=Be hl h;obtain ⟨z,ez⟩:=vT f;rw[ez] at f;exact ⟨z,ez,uW f⟩
end
def ou (mv:LR9):Nat->List Rat->List Rat
 | 0,x=>x
 | t+1,x=>ow mv (ou mv t x)
section
variable {mv pt lk pus:LR9} {st pu go:List Rat} {n t T c:Nat}
theorem En (h:st.length=mv.length):∀t,(ou mv t st).length=mv.length
 | 0=>h
 | _+1=>uO
theorem sv (D:dr mv pt lk) (h:st.length=mv.length) (hp:pu.length=pt.length) (hc:c < mv.length):(gV mv pt st pu).getD c 0=be mv.length (λj=>br mv c j*st.getD j 0)+be pt.length λi=>pu.getD i 0*br pt i c:=by
 have wc:=D.mw _ (aE hc)
 have e:(gV mv pt st pu).getD c 0=cS (mv[c]++pt.map λxs=>xs.getD c 0) (st++pu):=by
  unfold gV;rw[aa,cG,af hc,KO hc];rfl
 rw[e,sL (by lia),dm (by lia),dm (by rw[ag];lia),wc,ag];congr 1
 ·refine aA λj _=>?_
  unfold br;rw[aa (l:=mv),af hc];rfl
 ·refine aA λi hi=>?_
  rw[b6];congr 1;unfold br;rw[aa,aD,aa (l:=pt),af hi];rfl
theorem vR:∀t,(kry mv pt t).length=t*pt.length
 | 0=>by rw[Nat.zero_mul];rfl
 | t+1=>by
  show (pt++(kry mv pt t).map (ow mv)).length=_
  rw[av,ag,vR t,gH,nk]
end
section
variable {K:FG9} {H0 H H':Hp} {l p q:Addr} {R:LR9} {v:V} {mv pt:LR9} {u T:Nat}
def QV (mv pt:LR9) (u:Nat):List (LR9):=(List.range u).map λs=>pt.map (ou mv s)
theorem JE:QV mv pt (u+1)=QV mv pt u++[pt.map (ou mv u)]:=by unfold QV;rw[lF,b9];rfl
theorem wN:∀u,(QV mv pt u).flatten=kry mv pt u
 | 0=>rfl
 | u+1=>by
  have e:QV mv pt (u+1)=pt :: (QV mv pt u).map (List.map (ow mv)):=by
   unfold QV;rw[List.range_succ_eq_map,gN,fD];congr 1
   ·exact jy pt
   ·rw[fD];refine sZ λs _=>?_
    show pt.map (ou mv (s+1))=(pt.map (ou mv s)).map (ow mv)
    rw[fD];rfl
  rw[e,gJ,<- List.map_flatten,wN u];rfl
end
section
variable {mv pt lk rows R N Hd:LR9} {st pr go:List Rat} {n r t T a c W B:Nat} {ps psd:List Nat} {Pm Y Z:Nat->Nat->Rat} {d:Rat}
theorem Vb.tp (V:Vb r n Pm Y Z d W) (r15:r<=15) (w1:1<=W):∃q:Nat,0 < q/\q<=(16*W)^r/\∀s,s < r->∀c,c < n->Tp q ((16*W)^r) (Y s c):=by
 have rlt:∀i∈xX (λi=>i) r,i < r:=λi hi=>by
  obtain ⟨t,ht,e⟩:=nM hi;have e:i=t:=e
  lia
 obtain ⟨q,eq,bq⟩:=Mt (N:=16) (Wx:=W) (rs:=xX (λi=>i) r) (vs:=qj (λj i=>Pm i j) r) (by rw[cw_len];lia) λw hw i hi=>by
  obtain ⟨s,hs,rfl⟩:=cw_in hw;exact V.pf i (rlt i hi) s hs
 rw[rQ] at bq;rw[<- V.det] at eq;have q0:q≠0:=λz=>V.d0 (by rw[eq,z];rfl)
 refine ⟨q.natAbs,by lia,bq,λs hs c hc=>?_⟩
 have cr:=CY (rs:=xX (λi=>i) r) (v:=λj i=>Pm i j) (c:=λj=>Y j c) (W:=λi=>Z i c) hs (λi hi=>by
  rw[V.eq i (rlt i hi) c hc];exact aA λj _=>b6 _ _)
 obtain ⟨z,ez,bz⟩:=Mt (N:=16) (Wx:=W) (rs:=xX (λi=>i) r) (vs:=KA (λj i=>Pm i j) s r++(λi=>Z i c) :: qj (λj i=>Pm i j) s) (by
  have:=congrArg List.length (cw_split (v:=λj i=>Pm i j) hs);rw[av,bD,cw_len] at this;rw[av,bD]
  lia) λw hw i hi=>by
   rcases az.mp hw with hw | hw
   ·obtain ⟨s',hs',rfl⟩:=Gz hw;exact V.pf i (rlt i hi) s' hs'
   ·rcases aG.mp hw with rfl | hw
    ·exact V.zf i (rlt i hi) c hc
    ·obtain ⟨s',hs',rfl⟩:=cw_in hw;exact V.pf i (rlt i hi) s' (by lia)
 rw[rQ] at bz;rw[ez,<- V.det,eq] at cr;have key:Y s c*(q:Rat)=(z:Rat):=cr.symm;rcases GU q with h | h
 ·have hq:((q.natAbs:Nat):Rat)=(q:Rat):=by rw[<- bf,<- h]
  exact ⟨z,by rw[hq,key],bz⟩
 ·have hq:((q.natAbs:Nat):Rat)=-(q:Rat):=by rw[<- bf,<- de];congr 1;lia
  exact ⟨-z,by rw[hq,de,<- key];grind,by rw[jA];exact bz⟩
theorem Mh (F:og mv pt a c) (D8:mv.length<=8) (wm:∀xs∈mv,xs.length=mv.length) (wp:∀xs∈pt,xs.length=mv.length):∀T,∃R ps,Gd mv pt T R ps:=by
 intro T
 induction T with
 | zero=>exact ⟨_,_,Gd.start⟩
 | succ T ih =>
  obtain ⟨R,ps,G⟩:=ih;obtain ⟨RR,t,t1,t2,RRt,hs⟩:=id G;have le:=RR.le
  obtain ⟨R',ps',d,ls,S⟩:=xW (n:=mv.length) (rows:=pt++R.map (ow mv)) (λxs hx=>by
   rcases az.mp hx with hx | hx
   ·exact wp xs hx
   ·obtain ⟨y,_,rfl⟩:=aw.mp hx;exact uO) (F.step D8 wm wp (t:=t) (by lia) RRt)
  have RR':=vQ rfl wm wp RR S.rr;exact ⟨R',ps',(G.step wm wp RR').1⟩
theorem Sw (F:og mv pt a c) (D8:mv.length<=8) (wm:∀xs∈mv,xs.length=mv.length) (wp:∀xs∈pt,xs.length=mv.length) (RR:aO (kry mv pt T) mv.length R ps):Gd mv pt T R ps:=by
 obtain ⟨R',ps',G⟩:=Mh F D8 wm wp T;obtain ⟨rfl,rfl⟩:=RR.same G.1;exact G
theorem og.rtp (F:og mv pt a c) (D8:mv.length<=8) (wm:∀xs∈mv,xs.length=mv.length) (wp:∀xs∈pt,xs.length=mv.length) (RR:aO (kry mv pt T) mv.length R ps):∃q,0 < q/\q<=2^(ps.length*((mv.length - 1)*(a+c)+4))/\∀xs∈R,∀x∈xs,Tp q (2^(ps.length*((mv.length - 1)*(a+c)+4))) x:=by
 obtain ⟨_,t,t1,_,RRt,_⟩:=Sw F D8 wm wp RR;obtain ⟨Pm,Z,d,w,vb,hw⟩:=F.vb wm wp t1 RRt;have le:=RR.le;obtain ⟨q,q0,q1,q2⟩:=vb.tp (by lia) bI
 have up:(16*2^w)^ps.length<=2^(ps.length*((mv.length - 1)*(a+c)+4)):=by
  have e:(16*2^w)^ps.length=2^(ps.length*(w+4)):=by rw[show (16:Nat)=2^4 from rfl,<- bg,<- xo,cw ps.length,nk w]
  rw[e];refine ao (by decide) (aY _ ?_);rcases hw with ⟨_,rfl⟩ | ⟨_,rfl⟩ <;> lia
 refine ⟨q,q0,ai q1 up,EU λi hi e=>?_⟩;by_cases he:e < mv.length
 ·exact (q2 i (by rw[<- RR.1];exact hi) e he).mono up
 ·rw[qh RR.2.1 (by lia)];exact Tp.zero
theorem J8 (hw:∀xs∈N,xs.length=n) (hW:1<=W) (h0:0 < M) (h3:∀xs∈N,∀x∈xs,Tp M W x) (f:Nat->Nat) (hf:∀i,i < N.length->br N i (f i)≠0/\∀j,j < N.length->j≠i->br N j (f i)=0) (hn:∀i,i < N.length->f i < n) (RR:aO N n Hd psd):psd.length=N.length:=by
 have ent:=KP h0 h3;obtain ⟨ls,ps2,d,I⟩:=xE hw hW (by rw[ag];exact ent) n (aj _);obtain ⟨_,_,⟨pm,B⟩,E⟩:=I;rw[ag] at B E
 have RF:DA N.length n (br N) ps2.length (λj=>ps2.getD j 0) (λi c=>dU ls i c / d):=DA.other (E.done λi hi c hc=>uX (n:=n) (λzs hz=>by
  obtain ⟨xs,hx,rfl⟩:=aw.mp hz;rw[oi];exact hw xs hx) hc) zT zU
 obtain ⟨e1,_,_⟩:=RF.uniq RR.2.2 (λ_ hi=>eG.row hi) (λ_ hi=>eG.row hi);rw[<- e1];have km:=B.km;rcases bV ps2.length N.length with z | z
 ·exfalso
  have hk:=B.rng ps2.length z;obtain ⟨f1,f2⟩:=hf _ hk
  have low:∀i,i < ps2.length->dU (N.map gK) (pm i) (f (pm ps2.length))=0:=λi hi=>by
   rw[yE (B.rng i (by lia)),f2 _ (B.rng i (by lia)) (λe=>by have:=B.inj i ps2.length (by lia) z e;lia),cL]
  have lz:∀j,j < ps2.length->dU ls j (f (pm ps2.length))=0:=λj hj=>by
   rw[B.old hj]
   exact EX (λr hr=>by
    obtain ⟨t,ht,rfl⟩:=nM hr;exact low t ht) _ _
  have:=B.eqs ps2.length z (f (pm ps2.length));rw[if_neg (dW _),E.zero ps2.length (aj _) z _ (hn _ hk),cC λj hj=>by rw[lz j hj,cL],yE hk] at this;have bne:=wI (rows:=N) (i:=pm ps2.length);have d0:=B.d0;rcases MO.mp (this.trans (by grind)) with q | q
  ·exact d0 q
  ·rcases MO.mp q with q | q
   ·exact bne q
   ·exact f1 q
 ·lia
theorem Ml (h1:∀i j,i < j->j < ps.length->ps.getD i 0 < ps.getD j 0) (h2:∀j,j < ps.length->ps.getD j 0 < n):(di ps n).length+ps.length=n:=by
 have key:∀i,∃k,k<=ps.length/\(di ps i).length+k=i/\(∀j,j < k->ps.getD j 0 < i)/\∀j,k<=j->j < ps.length->i<=ps.getD j 0:=by
  intro i
  induction i with
  | zero=>exact ⟨0,bL _,rfl,λj hj=>absurd hj (fj _),λj _ _=>bL _⟩
  | succ i ih =>
   obtain ⟨k,k1,k2,k3,k4⟩:=ih;rw[A9];by_cases hk:k < ps.length/\ps.getD k 0=i
   ·have hm:i∈ps:=by rw[<- hk.2];exact getD_in hk.1
    rw[if_neg (λz=>z hm)];refine ⟨k+1,hk.1,by lia,λj hj=>?_,λj hj hl=>?_⟩
    ·rcases bV j k with z | z
     ·have:=k3 j z;lia
     ·rw[show j=k by lia,hk.2];lia
    ·have:=h1 k j (by lia) hl
     lia
   ·have hm:i∉ps:=λz=>by
     obtain ⟨j,hj,ej⟩:=aK z;have ej':ps.getD j 0=i:=by rw[aa,af hj];exact ej
     rcases bV j k with y | y
     ·have:=k3 j y;lia
     ·rcases bV k j with x | x
      ·have:=h1 k j x hj;have:=k4 k (aj _) (by lia)
       lia
      ·exact hk ⟨by lia,by rw[show k=j by lia];exact ej'⟩
    rw[if_pos hm];refine ⟨k,k1,by rw[av,bH];lia,λj hj=>by have:=k3 j hj;lia,λj hj hl=>?_⟩;have:=k4 j hj hl;rcases bV i (ps.getD j 0) with y | y
    ·exact y
    ·exact absurd (by rw[show i=ps.getD j 0 by lia];exact getD_in hl) hm
 obtain ⟨k,k1,k2,k3,k4⟩:=key n;rcases bV k ps.length with z | z
 ·have:=k4 k (aj _) z;have:=h2 k z
  lia
 ·lia
theorem vO:∀xs∈bA R ps n,xs.length=n:=λxs hx=>by
 obtain ⟨_,_,_,rfl⟩:=lT hx;exact jL
theorem yk (RR:aO rows n R ps):(bA R ps n).length+ps.length=n:=by
 unfold bA;rw[ag];exact Ml RR.2.2.inc RR.2.2.low
theorem AV (RR:aO rows n R ps) (hW:1<=W) (h0:0 < M) (h3:∀xs∈bA R ps n,∀x∈xs,Tp M W x) (RN:aO (bA R ps n) n Hd psd):psd.length+ps.length=n:=by
 have fn:∀i,i < (bA R ps n).length->∀c,c < n->c∉ps->br (bA R ps n) i c=if c=(di ps n).getD i 0 then 1 else 0:=λi hi c hc hp=>by
  unfold bA at hi ⊢;rw[ag] at hi;unfold br;rw[aa (l:=List.map _ _),aD,af hi];show (so R ps n (di ps n)[i]).getD c 0=_
  rw[pQ hc hp,aa,af hi];rfl
 have fm:∀i,i < (bA R ps n).length->(di ps n).getD i 0 < n/\(di ps n).getD i 0∉ps:=λi hi=>by
  unfold bA at hi;rw[ag] at hi;exact qg.mp (getD_in hi)
 have nd:(di ps n).Nodup:=by
  unfold di;exact GX Fg KE
 rw[J8 vO hW h0 h3 (λi=>(di ps n).getD i 0) (λi hi=>⟨?_,λj hj ne=>?_⟩) (λi hi=>(fm i hi).1) RN,yk RR]
 ·rw[fn i hi _ (fm i hi).1 (fm i hi).2,if_pos rfl];decide
 ·rw[fn j hj _ (fm i hi).1 (fm i hi).2,if_neg λz=>ne ?_];unfold bA at hi hj;rw[ag] at hi hj;rw[aa,aa,af hi,af hj] at z;have z:(di ps n)[i]=(di ps n)[j]:=z;have pw:=Q5.mp nd;rcases dZ i j with y | y | y
  ·exact absurd z (pw i j hi hj y)
  ·exact y.symm
  ·exact absurd z.symm (pw j i hj hi y)
theorem Ho (RR:aO rows n R ps) (RN:aO (bA R ps n) n Hd psd):∀h∈Hd,∀r∈R,cS h r=0:=λh hh r hr=>by
 obtain ⟨i,hi,rfl⟩:=aK hh;have wr:=RR.2.1 r hr;have wh:=RN.2.1 _ (aE hi);obtain ⟨v,hv⟩:=RN.2.2.back i (by rw[<- RN.1];exact hi);rw[dm (by lia),wh]
 have fnh:∀c,Hd[i].getD c 0=br Hd i c:=λc=>by
  unfold br;rw[aa (l:=Hd),af hi];rfl
 have e1:(be n λc=>Hd[i].getD c 0*r.getD c 0)=be (bA R ps n).length λt=>v t*be n λc=>br (bA R ps n) t c*r.getD c 0:=by
  have q:∀c,c < n->Hd[i].getD c 0*r.getD c 0=be (bA R ps n).length λt=>v t*(br (bA R ps n) t c*r.getD c 0):=λc _=>by
   rw[fnh c,hv c,b6,<- b7];exact aA λt _=>by grind
  rw[aA q,df];exact aA λt _=>b7
 rw[e1];refine cC λt ht=>?_
 have mt:=aE ht;obtain ⟨at_,ha,hp,en⟩:=lT mt;obtain ⟨j,hj,rfl⟩:=aK hr;have dz:=ym (vz RR) ha hp (af hj) wr;rw[<- en] at dz;have wn:(bA R ps n)[t].length=n:=vO _ mt;rw[dm (by lia),wr] at dz
 have q:(be n λc=>br (bA R ps n) t c*R[j].getD c 0)=0:=by
  refine Eq.trans (aA λc _=>?_) dz
  have:br (bA R ps n) t c=(bA R ps n)[t].getD c 0:=by
   unfold br;rw[aa (l:=bA R ps n),af ht];rfl
  rw[this];exact b6 _ _
 rw[q,cL]
end
structure Ot (mv pt:LR9) (st pu:List Rat):Prop where
 f2:∀xs∈mv,qQ xs st
 part:∀kk,∀x∈nextK mv pt st pu kk,mQ x
 su:∀u∈pu,mQ u
 sp:∀row∈pt,∀y∈row,mQ y
 mul:∀u∈pu,∀row∈pt,∀y∈row,mQ (u*y)
inductive Fy (K:FG9) (vs:List V) (H:Hp) (Q:VK) (E9:XK):Prop
 | mk (r s u:Addr) (H0:Hp) (mv pt lk:LR9) (st pu:List Rat):vs=[.ref r,.ref s,.ref u]->eo K H0 H r mv pt lk->dr mv pt lk->dI K H s st->dI K H u pu->st.length=mv.length->pu.length=pt.length->Ot mv pt st pu->(∀t H',H t=none->aH H H'->dI K H' t (gV mv pt st pu)->Q (.ref t) H')->Fy K vs H Q E9
structure Bd (mv pt:LR9) (M1 M2 V a1 a2 c:Nat):Prop where
 m1:0 < M1
 m2:0 < M2
 b1:M1<=2^a1
 b2:M2<=2^a2
 gm:GF M1 V mv
 gp:GF M2 V pt
 vc:(mv.length+4)*V<=2^c
section
variable {mv pt lk pus:LR9} {st pu go:List Rat} {M1 M2 V a1 a2 c N Np p t T ν:Nat}
theorem Bd.v1 (B:Bd mv pt M1 M2 V a1 a2 c):V<=2^c:=ai (d4 _ (by lia)) B.vc
theorem qe (h0:0 < M) (h1:M<=2^a) (h2:W<=2^b) (hab:a+b<=3990) (h:Fr M W x):mQ x:=by
 refine xB (Tp.of h (aj _)) h0 (ai h1 (ao (by decide) (by lia))) ?_;refine ai (aJ h2 h1) ?_;rw[<- bg];exact ao (by decide) (by lia)
theorem Bd.next (B:Bd mv pt M1 M2 V a1 a2 c) (D:dr mv pt lk) (ls:st.length=mv.length) (lu:pu.length=pt.length) (N0:0 < N) (dv:M2*Np∣M1*N) (hs:∀x∈st,Fr N (2^p) x) (hu:∀x∈pu,Fr Np (2^p) x) (hN:N<=2^ν) (sz:a1+ν+c+p<=3900) (sp2:a2+c<=3900):Ot mv pt st pu/\∀x∈gV mv pt st pu,Fr (M1*N) (2^(c+p)) x:=by
 have V1:=B.v1;have i4:=D.i4;have MN0:0 < M1*N:=bQ B.m1 N0;have MN:M1*N<=2^(a1+ν):=by rw[bg];exact aJ B.b1 hN
 have Np0:0 < Np:=by
  rcases lW Np with z | z
  ·rw[z,JO] at dv;have:=Nat.eq_zero_of_zero_dvd dv
   lia
  ·exact z
 have NpMN:Np<=M1*N:=ai (d4 _ B.m2) (gM MN0 dv)
 have one:∀u∈pu,∀row∈pt,∀y∈row,Fr (M1*N) (V*2^p) (u*y):=λu hu' row hr y hy=>by
  have:=(B.gp row hr y hy).mul (hu u hu');rw[b6];exact this.dvd dv
 have part:∀kk,kk<=pt.length->∀x∈nextK mv pt st pu kk,Fr (M1*N) (2^(c+p)) x:=λkk hkk x hx=>by
  obtain ⟨j,hj,e⟩:=aK hx;rw[iO] at hj;have e2:=AW (mv:=mv) (pt:=pt) (st:=st) (pu:=pu) (k:=kk) hj;rw[aa,af (by rw[iO];exact hj)] at e2;have e3:x=cS (mv[j]++(pt.map λxs=>xs.getD j 0).take kk) (st++pu.take kk):=by rw[<- e,<- e2];rfl
  have wj:=D.mw _ (aE hj);rw[e3,sL (by lia)];have f1:=Fr.dot (B.gm _ (aE hj)) hs;rw[wj] at f1
  have f2:Fr (M1*N) (4*(V*2^p)) (cS ((pt.map λxs=>xs.getD j 0).take kk) (pu.take kk)):=by
   have hc:∀y∈(pt.map λxs=>xs.getD j 0).take kk,Fr M2 V y:=λy hy=>by
    obtain ⟨xs,hxs,rfl⟩:=aw.mp (bG hy);rw[aa];cases e:xs[j]? with
    | none=>exact Fr.zero
    | some z=>exact B.gp xs hxs z (ar e)
   have:=Fr.dot (ys:=pu.take kk) hc (λy hy=>hu y (bG hy));refine (this.dvd dv).mono (ay _ ?_);rw[aR,ag]
   lia
  refine (f1.add f2).mono ?_;rw[<- DB,bg,<- b8];exact ay _ B.vc
 have szb:∀{x:Rat},Fr (M1*N) (2^(c+p)) x->mQ x:=λh=>qe MN0 MN (aj _) (by lia) h
 have all:∀kk,∀x∈nextK mv pt st pu kk,Fr (M1*N) (2^(c+p)) x:=λkk x hx=>by
  rcases bV pt.length kk with z | z
  ·have e:nextK mv pt st pu kk=nextK mv pt st pu pt.length:=(tj (by lia) (by lia)).trans (tj (aj _) (by lia)).symm;rw[e] at hx;exact part _ (aj _) x hx
  ·exact part kk z x hx
 refine ⟨⟨λxs hx=>⟨a1,c,ν,p,⟨M1,V,B.m1,B.b1,V1,B.gm xs hx⟩,⟨N,2^p,N0,hN,aj _,hs⟩,by lia⟩,λkk x hx=>szb (all kk x hx),λu hu'=>?_,λrow hr y hy=>?_,λu hu' row hr y hy=>szb ((one u hu' row hr y hy).mono (by rw[bg];exact ay _ V1))⟩,λx hx=>?_⟩
 ·exact qe Np0 (ai NpMN MN) (aj _) (by lia) (hu u hu')
 ·exact qe B.m2 B.b2 V1 (by lia) (B.gp row hr y hy)
 ·rw[<- tj (k:=pt.length) (aj _) (by lia)] at hx;exact all _ x hx
end
section
variable {mv pt lk pus:LR9} {st pu go:List Rat} {M1 M2 V a1 a2 c N Np p t T ν k:Nat}
theorem rS (h:M<=2^a) (hN:N<=2^ν):M^t*N<=2^(a*t+ν):=by
 rw[bg,xo];exact aJ (kn h t) hN
theorem Bd.states (B:Bd mv pt M1 M2 V a1 a2 c) (D:dr mv pt lk) (ls:st.length=mv.length) (wp:∀xs∈pus,xs.length=pt.length) (N0:0 < N) (hN:N<=2^ν) (dv:M2*Np∣N) (hs:∀x∈st,Fr N (2^p) x) (hu:∀xs∈pus,∀x∈xs,Fr Np (2^p) x) (sz:a1*(pus.length+1)+ν+c*(pus.length+1)+p<=3900) (sp2:a2+c<=3900):∀k,k<=pus.length->(∀x∈mR mv pt st pus k,Fr (M1^k*N) (2^(c*k+p)) x)/\∀pu,pus[k]?=some pu->Ot mv pt (mR mv pt st pus k) pu:=by
 have key:∀k,k<=pus.length->(∀x∈mR mv pt st pus k,Fr (M1^k*N) (2^(c*k+p)) x)->∀pu,pus[k]?=some pu->Ot mv pt (mR mv pt st pus k) pu/\∀x∈gV mv pt (mR mv pt st pus k) pu,Fr (M1*(M1^k*N)) (2^(c+(c*k+p))) x:=λk hk f pu hpu=>by
  have mp:=ar hpu;have kl:=(aF.mp hpu).1;have e1:a1*(k+1)<=a1*(pus.length+1):=aY _ (by lia);have e2:c*(k+1)<=c*(pus.length+1):=aY _ (by lia);rw[fM,MI] at e1 e2;refine B.next D (kM ls hk) (wp pu mp) (bQ (mL B.m1) N0) ?_ f (λx hx=>(hu pu mp x hx).mono (ao (by decide) (Nat.le_add_left _ _))) (rS B.b1 hN) (by lia) sp2;exact xv dv (xv (dO _ _) (dO _ _))
 have fr:∀k,k<=pus.length->∀x∈mR mv pt st pus k,Fr (M1^k*N) (2^(c*k+p)) x:=by
  intro k
  induction k with
  | zero =>
   intro _ x hx;rw[Nat.pow_zero,xp,JO,Nat.zero_add];exact hs x hx
  | succ k ih =>
   intro hk x hx;have e:=af (show k < pus.length by lia);rw[ke e] at hx;have:=(key k (by lia) (ih (by lia)) _ e).2 x hx;rw[<- b8,cw M1,<- gI,show c+(c*k+p)=c*(k+1)+p by rw[fM];lia] at this;exact this
 exact λk hk=>⟨fr k hk,λpu hpu=>(key k hk (fr k hk) pu hpu).1⟩
def Tz (mv:LR9) (st:List Rat) (T:Nat):Prop:=∃M1 V a1 c N p ν,0 < M1/\M1<=2^a1/\GF M1 V mv/\(mv.length+4)*V<=2^c/\0 < N/\N<=2^ν/\(∀x∈st,Fr N (2^p) x)/\a1*(T+1)+ν+c*(T+1)+p<=3900
theorem Ql (gm:GF M1 V mv) (wm:∀xs∈mv,xs.length=mv.length) (vc:(mv.length+4)*V<=2^c) (ls:st.length=mv.length) (hs:∀x∈st,Fr N (2^p) x):∀t,∀x∈ou mv t st,Fr (M1^t*N) (2^(c*t+p)) x:=by
 intro t
 induction t with
 | zero =>
  intro x hx;rw[Nat.pow_zero,xp,JO,Nat.zero_add];exact hs x hx
 | succ t ih =>
  intro x hx;obtain ⟨row,hr,rfl⟩:=aw.mp (show x∈mv.map λxs=>cS xs (ou mv t st) from hx);have f:=Fr.dot (gm row hr) ih;rw[<- b8,cw M1,<- gI] at f;refine f.mono ?_;rw[wm row hr,<- b8,show c*(t+1)+p=c+(c*t+p) by rw[fM];lia,bg 2 c];exact ay _ (ai (ay V (show mv.length<=mv.length+4 by lia)) vc)
theorem Tz.fit (h:Tz mv st T) (wm:∀xs∈mv,xs.length=mv.length) (ls:st.length=mv.length) (ht:t<=T):(∀xs∈mv,qQ xs (ou mv t st))/\∀x∈ou mv t st,mQ x:=by
 obtain ⟨M1,V,a1,c,N,p,ν,m0,m1,gm,vc,N0,hN,hs,sz⟩:=h;have f:=Ql gm wm vc ls hs t;have V1:V<=2^c:=ai (d4 _ (by lia)) vc;have e1:a1*t<=a1*T:=aY _ ht;have e2:c*t<=c*T:=aY _ ht;rw[fM,fM,MI,MI] at sz;exact ⟨λxs hx=>⟨a1,c,a1*t+ν,c*t+p,⟨M1,V,m0,m1,V1,gm xs hx⟩,⟨M1^t*N,2^(c*t+p),bQ (mL m0) N0,rS m1 hN,aj _,f⟩,by lia⟩,λx hx=>qe (bQ (mL m0) N0) (rS m1 hN) (aj _) (by lia) (f x hx)⟩
def Q3 (mv pt:LR9) (T:Nat):Prop:=∃M1 M2 V a1 a2 c,Bd mv pt M1 M2 V a1 a2 c/\a1*(T+1)+a2+c*(T+2)<=3900
theorem Q3.row (h:Q3 mv pt T) (wm:∀xs∈mv,xs.length=mv.length) (wp:∀xs∈pt,xs.length=mv.length):∀xs∈pt,Tz mv xs T:=λxs hx=>by
 obtain ⟨M1,M2,V,a1,a2,c,B,sz⟩:=h;refine ⟨M1,V,a1,c,M2,c,a2,B.m1,B.b1,B.gm,B.vc,B.m2,B.b2,λx hx'=>(B.gp xs hx x hx').mono B.v1,?_⟩;rw[fM c T 2] at sz;rw[fM c T 1]
 lia
end
inductive CI (K:FG9) (vs:List V) (H:Hp) (Q:VK) (E9:XK):Prop
 | mk (r:Addr) (T:Nat) (H0:Hp) (mv pt lk:LR9):vs=[.ref r,.int T]->T<=20->eo K H0 H r mv pt lk->dr mv pt lk->Q3 mv pt T->(∀q H',H q=none->aH H H'->bo K H H' q (kry mv pt T)->Q (.ref q) H')->CI K vs H Q E9
section
variable {X:Cx}
theorem Kw (hc:X.calm=true):oP X (.builtin "max") (λxs H Q=>∃(p:Addr) (ns:List Int),xs=[.ref p]/\bU X.K H p (ns.map V.int)/\0 < ns.length/\∀M,M∈ns->(∀a,a∈ns->a<=M)->Q (.int M) H):=by
 intro pins s σ H xs us Q I r h;obtain ⟨p,ns,rfl,hp,hne,q⟩:=h;obtain ⟨u,rfl,ru⟩:=vals1 r;cases ru;obtain ⟨its,r2,pl,_⟩:=I.list hp;have hi:=intsAre_of r2;have hl:=pl.isList;obtain ⟨xs,e⟩:=hi.allInts.items
 have hns:ns=xs.toList.map (·.1):=by
  rw[<- hi.numsOf,<- nums_intItems,<- e]
 have hsz:0 < xs.size:=by
  have h3:=hne;rw[hns,ag,Array.length_toList] at h3;exact h3
 rw[e] at hl;refine max_intList (I.ok.hd hc) hl hsz λv h' tk hv hk=>?_
 obtain ⟨t,rfl⟩:=intItems_at hv;obtain ⟨h1,h2⟩:=argBest_gt (numAt xs) (xs.size - 1);refine ⟨.int _,H,I.kept hk,⟨_,rfl⟩,q _ ?_ λa ha=>?_⟩
 ·rw[hns,numAt_eq];exact getD_in (by rw[ag,Array.length_toList];lia)
 ·rw[hns] at ha;obtain ⟨j,hj,rfl⟩:=mem_getD ha;rw[ag,Array.length_toList] at hj;rw[<- numAt_eq];exact h2 j (by lia)
end
theorem CL {α β:Type} {f:α->β}:∀{l1:List α} {l2:List β},Paired (λa b=>b=f a) l1 l2->l2=l1.map f
 | _,_,.nil=>rfl
 | _,_,.cons h r=>by rw[h,CL r];rfl
def StP (mv pt:LR9) (T:Nat):Prop:=T<=12/\(T<=3\/((∀xs∈mv++pt,∀x∈xs,x.den<=9/\x.num.natAbs < 1000)/\(5 < mv.length->T<=mv.length)/\(3<=mv.length->mv.length<=5->T<=mv.length+1)))
def Q8 (x:Rat):Int:=(x.den:Int)+(x.num.natAbs:Int) / 1000*9
theorem Oh (h:Q8 x<=9):x.den<=9/\x.num.natAbs < 1000:=by
 unfold Q8 at h;have:=x.den_pos
 lia
inductive Cv (K:FG9) (vs:List V) (H:Hp) (Q:VK) (E9:XK):Prop
 | mk (b r:Addr) (H0:Hp) (mv pt lk:LR9):vs=[.ref b,.ref r]->ip H b->H0 b≠none->eo K H0 H r mv pt lk->dr mv pt lk->(∀xs∈mv++pt,∀x∈xs,mQ x)->(∀(T:Nat) H',StP mv pt T->ip H' b->c5 b H H'->Q (.int T) H')->Cv K vs H Q E9
inductive Fw (K:FG9) (vs:List V) (H:Hp) (Q:VK) (E9:XK):Prop
 | mk (b r:Addr) (T w:Nat) (H0:Hp) (mv pt lk:LR9):vs=[.ref b,.ref r,.int T,.int w]->T<=100->1<=w->w<=1000->ip H b->H0 b≠none->eo K H0 H r mv pt lk->dr mv pt lk->(∀p pus H',H p=none->bo K H H' p pus->pus.length=T->(∀xs∈pus,xs.length=pt.length/\∀x∈xs,Dr (max w 6) x)->ip H' b->c5 b H H'->Q (.ref p) H')->Fw K vs H Q E9
theorem LL (ws vs:List V) (M1 M2 M3:Nat):∃μ:V->Nat,(∀x∈ws,μ x=M2)/\(∀x∈vs,x∉ws->μ x=M3)/\(∀x,x∉ws->x∉vs->μ x=M1)/\∀x,μ x=M1\/μ x=M2\/μ x=M3:=by
 classical
 refine ⟨λx=>if x∈ws then M2 else if x∈vs then M3 else M1,λx h=>if_pos h,λx h h'=>?_,λx h h'=>?_,λx=>?_⟩
 ·show (if x∈ws then M2 else if x∈vs then M3 else M1)=M3
  rw[if_neg h',if_pos h]
 ·show (if x∈ws then M2 else if x∈vs then M3 else M1)=M1
  rw[if_neg h,if_neg h']
 ·show (if x∈ws then M2 else if x∈vs then M3 else M1)=M1\/(if x∈ws then M2 else if x∈vs then M3 else M1)=M2\/(if x∈ws then M2 else if x∈vs then M3 else M1)=M3
  by_cases h:x∈ws
  ·rw[if_pos h];exact .inr (.inl rfl)
  ·rw[if_neg h];by_cases h':x∈vs
   ·rw[if_pos h'];exact .inr (.inr rfl)
   ·rw[if_neg h'];exact .inl rfl
theorem jv.apart {K:FG9} (h:jv K A H n C m p l b q0 us ws vs):(∀x∈us,x∉ws/\x∉vs)/\∀x∈vs,x∉ws:=by
 obtain ⟨n1,n2,n3⟩:=dE.mp h.nd;obtain ⟨n4,n5,n6⟩:=dE.mp n1;exact ⟨λx hx=>⟨λz=>n3 x (az.mpr (.inl hx)) x z rfl,λz=>n6 x hx x z rfl⟩,λx hx z=>n3 x (az.mpr (.inr hx)) x z rfl⟩
theorem jv.fr3 {K:FG9} (h:jv K A H n (λ_=>Dr (2^c)) m p l b q0 us ws vs):∃M1 M2 M3,0 < M1/\0 < M2/\0 < M3/\M1<=2^(c*(n*n))/\M2<=2^(c*(ws.length*n))/\M3<=2^(c*(vs.length*n))/\(∀x∈us,fw K A H n (Fr M1 (2^c)) x)/\(∀x∈ws,fw K A H n (Fr M2 (2^c)) x)/\∀x∈vs,fw K A H n (Fr M3 (2^c)) x:=by
 have one:∀l:List V,(∀x∈l,x∈us++vs++ws)->∃M,0 < M/\M<=2^(c*(l.length*n))/\∀x∈l,fw K A H n (Fr M (2^c)) x:=λl hl=>by
  obtain ⟨ra,pa,la,ha⟩:=Az λx hx=>h.row x (hl x hx)
  obtain ⟨M,m0,m1,m2⟩:=Nj (c:=c) (n:=n) (rows:=ra) ha;exact ⟨M,m0,by rw[la] at m1;exact m1,HG pa λqs hq=>⟨(ha qs hq).1,m2 qs hq⟩⟩
 obtain ⟨M1,a1,a2,a3⟩:=one us λx hx=>by simp [hx]
 obtain ⟨M2,b1,b2,b3⟩:=one ws λx hx=>by simp [hx]
 obtain ⟨M3,c1,c2,c3⟩:=one vs λx hx=>by simp [hx]
 rw[h.lm] at a2;exact ⟨M1,M2,M3,a1,b1,c1,a2,b2,c2,a3,b3,c3⟩
inductive CC (K:FG9) (xs:List V) (H:Hp) (Q:VK) (E9:XK):Prop
 | mk (b m p l q0:Addr) (n V1:Nat) (μ:V->Nat) (A:Addr->Prop) (us ws vs:List V):xs=[.ref b,.ref m,.ref p,.ref l]->GQ A m p l b q0->jv K A H n (λx=>Fr (μ x) V1) m p l b q0 us ws vs->n<=8->ws.length<=4->vs.length<=4->(∀x,0 < μ x)->(∀x,μ x<=2^800)->(∃M,∀x,x∉ws->x∉vs->μ x=M)->V1<=2^20->(∀q,H q=none->A q)->(∀r us' H',H' r=some (.tup [.ref m,.ref p,.ref l])->jv K A H' n (λx=>Fr (μ x) (9^3*V1)) m p l b q0 us' ws vs->ik A b m H H'->Q (.ref r) H')->CC K xs H Q E9
def Tx (n i o w c:Nat) (mv pt lk:LR9):Prop:=∃M1 M2 M3 V1:Nat,0 < M1/\0 < M2/\0 < M3/\GF M1 V1 mv/\GF M2 V1 pt/\GF M3 V1 lk/\((w<=9/\M1=2520/\M2=2520/\M3=2520/\V1=9^3*9)\/(9 < w/\M1<=2^(c*(n*n))/\M2<=2^(c*(i*n))/\M3<=2^(c*(o*n))/\V1=9^3*2^c))
inductive Cy (K:FG9) (vs:List V) (H:Hp) (Q:VK) (E9:XK):Prop
 | mk (b:Addr) (n i o w c:Nat):vs=[.ref b,.int n,.int i,.int o,.int w]->ip H b->n<=8->i<=4->o<=4->1<=w->w<=1000000->max w 6<=2^c->c<=20->c*((n+i+o)*n)<=800->(∀r mv pt lk H',eo K H H' r mv pt lk->mv.length=n->pt.length=i->lk.length=o->dr mv pt lk->Tx n i o w c mv pt lk->ip H' b->c5 b H H'->Q (.ref r) H')->Cy K vs H Q E9
def Rg (mv pt:LR9) (w:Nat):Prop:=(w<=9/\Bd mv pt 1 1 (9^3) 0 0 14)\/(w<=9/\mv.length<=5/\Bd mv pt 2520 2520 (9^3*9) 12 12 16)\/(w=1000/\mv.length<=2/\∃M1 M2,Bd mv pt M1 M2 (9^3*2^20) 80 160 33)
theorem HZ {M V:Nat} (h:GF M V l) (k:Nat):GF (k*M) V l:=λxs hx x hx'=>(h xs hx x hx').scaleL k
theorem Tx.n {n i o w c:Nat} (h:Tx n i o w c mv pt lk):PtF n i o w c mv pt lk:=by
 obtain ⟨M1,M2,M3,V1,a1,a2,a3,f1,f2,f3,hc⟩:=h;rcases hc with ⟨w9,rfl,rfl,rfl,e⟩ | ⟨w9,e1,e2,e3,e⟩
 ·exact ⟨2520,V1,by decide,f1,f2,f3,.inl ⟨w9,rfl,e⟩⟩
 ·refine ⟨M1*M2*M3,V1,bQ (bQ a1 a2) a3,?_,?_,?_,.inr ⟨w9,?_,e⟩⟩
  ·have:=HZ f1 (M2*M3);rwa [show M2*M3*M1=M1*M2*M3 by rw[cw (M2*M3),b8]] at this
  ·have:=HZ f2 (M1*M3);rwa [show M1*M3*M2=M1*M2*M3 by rw[b8,cw M3,b8]] at this
  ·exact HZ f3 (M1*M2)
  ·refine ai (aJ (aJ e1 e2) e3) ?_;rw[<- bg,<- bg,show c*((n+i+o)*n)=c*(n*n)+c*(i*n)+c*(o*n) by rw[DB,DB,fM,fM]];exact aj _
section
variable {mv pt lk pus:LR9} {st pu go pr:List Rat} {M1 M2 V a1 a2 c B b g p t T w:Nat}
theorem Bd.kry (X:Bd mv pt M1 M2 V a1 a2 c) (D:dr mv pt lk):∀t,∀xs∈kry mv pt t,∀x∈xs,Fr (M1^(t - 1)*M2) (2^(c*t)) x:=by
 intro t
 induction t with
 | zero=>intro xs hx;exact nomatch hx
 | succ t ih =>
  intro xs hx x hx';rcases az.mp (show xs∈pt++(L2.kry mv pt t).map (ow mv) from hx) with hx | hx
  ·refine Fr.up (X.gp xs hx x hx') (dO _ _) (ai X.v1 (ao (by decide) ?_));exact dn _ (by lia)
  ·obtain ⟨ys,hy,rfl⟩:=aw.mp hx;obtain ⟨row,hr,rfl⟩:=aw.mp (show x∈mv.map λzs=>cS zs ys from hx');rcases t with _ | t
   ·exact nomatch hy
   have f:=Fr.dot (X.gm row hr) (ih ys hy);rw[show M1*(M1^(t+1 - 1)*M2)=M1^(t+1+1 - 1)*M2 by rw[<- b8,show t+1 - 1=t by lia,show t+1+1 - 1=t+1 by lia,gI,cw M1]] at f;refine f.mono ?_;rw[D.mw row hr,<- b8,show c*(t+1+1)=c+c*(t+1) by rw[fM c (t+1)];lia,bg 2 c];exact ay _ (ai (ay V (show mv.length<=mv.length+4 by lia)) X.vc)
end
open PySem.MeetsSeq
section
variable {rows rows0 fs l2 R Hd:LR9} {hd:List Rat} {n P:Nat} {ps psd:List Nat}
def Ta (rows:LR9) (n S:Nat):Prop:=2*S<=3990/\∃J:Nat->LR9->List Nat->Prop,J 0 rows []/\(∀P rs ps,J P rs ps->(∀i,ps.length<=i->i < rs.length->br rs i P=0)->J (P+1) rs ps) /\
 (∀P fs ls ps t,J P (fs++ls) ps->fs.length=ps.length->t < ls.length->P < n->(ls.getD t []).getD P 0≠0->(∀j,j < t->br ls j P=0)->J (P+1) ((fs.map (zP P (m6 P (ls.getD t [])) )++[m6 P (ls.getD t [])])++(ls.eraseIdx t).map (zP P (m6 P (ls.getD t [])))) (ps++[P])) /\
 (∀P rs ps,J P rs ps->Aa rows n P rs ps)/\∀P rs ps,J P rs ps->P<=n->∀i,i < rows.length->∃D:Nat,0 < D/\D<=2^S/\∀c,Tp D (2^S) (br rs i c)
theorem Rh.lwt (h:Rh rows n S):Ta rows n S:=by
 obtain ⟨a,J,j0,j1,j2,j3,j4⟩:=h;exact ⟨a,J,j0,j1,λP fs ls ps t h1 h2 h3 h4 h5 _=>j2 P fs ls ps t h1 h2 h3 h4 h5,j3,j4⟩
theorem Tp.neg (h:Tp M W x):Tp M W (-x):=by
 obtain ⟨z,e,b⟩:=h;exact ⟨-z,by rw[Rat.neg_mul,e];exact (de z).symm,by rw[jA];exact b⟩
end
section
variable {rows rows' R R' Hd Hd':LR9} {n:Nat} {ps ps' psd psd':List Nat}
theorem CN (RR:aO rows n R ps) (far:∀c,n<=c->x c=0) (hx:∀j,j < ps.length->(be n λc=>br R j c*x c)=0):eG (bA R ps n).length (br (bA R ps n)) x:=by
 have Rf:=RR.2.2;have lN:(bA R ps n).length=(di ps n).length:=by unfold bA;rw[ag]
 have fN:∀t,t < (bA R ps n).length->(di ps n).getD t 0 < n/\(di ps n).getD t 0∉ps:=λt ht=>qg.mp (getD_in (by lia))
 have vN:∀t,t < (bA R ps n).length->∀c,br (bA R ps n) t c=(so R ps n ((di ps n).getD t 0)).getD c 0:=λt ht c=>by
  have h:t < (di ps n).length:=by lia
  unfold br bA;rw[aa (l:=List.map _ _),aD,af h,aa (l:=di ps n),af h];rfl
 have nd:(di ps n).Nodup:=by
  unfold di;exact GX Fg KE
 refine ⟨λt=>x ((di ps n).getD t 0),λc=>?_⟩
 suffices y0:∀c,x c - (be (bA R ps n).length λt=>x ((di ps n).getD t 0)*br (bA R ps n) t c)=0 by
  have:=y0 c;grind
 have free:∀c,c < n->c∉ps->x c - (be (bA R ps n).length λt=>x ((di ps n).getD t 0)*br (bA R ps n) t c)=0:=λc hc hp=>by
  obtain ⟨t0,h0,e0⟩:=aK (qg.mpr ⟨hc,hp⟩);have g0:(di ps n).getD t0 0=c:=by rw[aa,af h0];exact e0
  rw[cV (i:=t0) (by lia) λt ht ne=>?_,vN t0 (by lia),pQ hc hp,g0,if_pos rfl]
  ·grind
  ·rw[vN t ht,pQ hc hp,if_neg λz=>ne ?_]
   ·grind
   ·have ht':t < (di ps n).length:=by lia
    have z:(di ps n)[t]=(di ps n)[t0]:=by
     rw[aa,af ht'] at z;rw[e0];exact z.symm
    have pw:=Q5.mp nd;rcases dZ t t0 with y | y | y
    ·exact absurd z (pw t t0 ht' h0 y)
    ·exact y
    ·exact absurd z.symm (pw t0 t h0 ht' y)
 have dN:∀j,j < ps.length->∀t,t < (bA R ps n).length->(be n λc=>br R j c*br (bA R ps n) t c)=0:=λj hj t ht=>by
  have hj':j < R.length:=by rw[RR.1];exact hj
  have wr:=RR.2.1 _ (aE hj');have dz:=ym (vz RR) (fN t ht).1 (fN t ht).2 (af hj') wr;rw[dm (by rw[wr];exact jL.symm),wr] at dz;refine Eq.trans (aA λc _=>?_) dz;rw[vN t ht];unfold br;rw[aa (l:=R),af hj'];rfl
 have dY:∀j,j < ps.length->(be n λc=>br R j c*(x c - (be (bA R ps n).length λt=>x ((di ps n).getD t 0)*br (bA R ps n) t c)))=0:=λj hj=>by
  have e:∀c,c < n->br R j c*(x c - (be (bA R ps n).length λt=>x ((di ps n).getD t 0)*br (bA R ps n) t c))=br R j c*x c+(-1)*(be (bA R ps n).length λt=>x ((di ps n).getD t 0)*(br R j c*br (bA R ps n) t c)):=λc _=>by
   have:(be (bA R ps n).length λt=>x ((di ps n).getD t 0)*(br R j c*br (bA R ps n) t c))=br R j c*be (bA R ps n).length λt=>x ((di ps n).getD t 0)*br (bA R ps n) t c:=by
    rw[<- b7];exact aA λt _=>by grind
   rw[this];grind
  rw[aA e,kd,hx j hj,b7,df,cC (k:=(bA R ps n).length) λt ht=>?_]
  ·grind
  ·rw[b7,dN j hj t ht];grind
 intro c;by_cases hc:c < n
 ·by_cases hp:c∈ps
  ·obtain ⟨j,hj,ej⟩:=aK hp;have g:ps.getD j 0=c:=by rw[aa,af hj];exact ej
   have:=dY j hj;rw[cV (i:=c) hc λc' hc' ne=>?_] at this
   ·have u:=Rf.unit j hj j hj;rw[g,if_pos rfl] at u;rw[u] at this;grind
   ·by_cases hp':c'∈ps
    ·obtain ⟨i,hi,ei⟩:=aK hp';have gi:ps.getD i 0=c':=by rw[aa,af hi];exact ei
     have u:=Rf.unit j hj i hi;rw[gi,if_neg (λz=>ne (by rw[<- gi,<- g,z]))] at u;rw[u];grind
    ·rw[free c' hc' hp'];grind
  ·exact free c hc hp
 ·rw[far c (by lia),cC λt _=>by rw[qh vO (by lia)];grind];grind
end
inductive Cz (K:FG9) (vs:List V) (H:Hp) (Q:VK) (E9:XK):Prop
 | mk (p:Addr) (n w:Nat) (H0:Hp) (rows R:LR9) (ps:List Nat):vs=[.ref p,.int n]->bo K H0 H p R->R.length<=100->n<=100->aO rows n R ps->zF R n w->(∀xs∈R,∀x∈xs,mQ x)->(∀r H',H r=none->aH H H'->bo K H H' r (bA R ps n)->Q (.ref r) H')->Cz K vs H Q E9
structure Q9 (A lk:LR9) (e:Nat):Prop where
 n8:A.length<=8
 wm:∀xs∈A,xs.length=A.length
 wp:∀xs∈lk,xs.length=A.length
 kf:∃a c,og A lk a c/\A.length*((A.length - 1)*(a+c)+4)<=900/\∀p,p<=A.length->(A.length - p)*(p*((A.length - 1)*(a+c)+4)+4)<=e
 e1:e<=1650
def Tr (A lk:LR9) (n t e:Nat) (Hd:LR9):Prop:=∃R ps psd M,aO (kry A lk t) n R ps/\aO (bA R ps n) n Hd psd/\psd.length+ps.length=n/\0 < M/\M<=2^e/\∀xs∈Hd,∀x∈xs,Tp M (2^e) x
section
variable {A lk R Hd:LR9} {e T n t:Nat} {ps psd:List Nat}
theorem Q9.sw (h:Q9 A lk e) (RR:aO (kry A lk T) A.length R ps):(∃w,zF R A.length w)/\(∀xs∈R,∀x∈xs,mQ x)/\∃w,zF (bA R ps A.length) A.length w/\min (bA R ps A.length).length A.length*(w+4)<=e/\∃q,0 < q/\∀xs∈bA R ps A.length,∀x∈xs,Tp q (2^w) x:=by
 obtain ⟨a,c,KF,b1,b2⟩:=h.kf;obtain ⟨q,q0,q1,q2⟩:=KF.rtp h.n8 h.wm h.wp RR;have n8:=h.n8;have le:=RR.le;have lR:=RR.1;have cnt:=yk RR;have e1:=h.e1;have bp:=b2 ps.length le;generalize (A.length - 1)*(a+c)+4=E at b1 b2 q1 q2 bp;have pE:ps.length*E<=900:=ai (ay _ le) b1;have up:∀{m:Nat},900<=m->2^(ps.length*E)<=2^m:=λh=>ao (by decide) (by lia)
 have tn:∀xs∈bA R ps A.length,∀x∈xs,Tp q (2^(ps.length*E)) x:=λxs hx x hx'=>by
  obtain ⟨a,_,_,rfl⟩:=lT hx;exact LD q0 q1 q2 RR x hx'
 have bn:min (bA R ps A.length).length A.length*(ps.length*E+4)<=e:=ai (ay _ (show min (bA R ps A.length).length A.length<=A.length - ps.length by lia)) bp;refine ⟨⟨ps.length*E,q,2^(ps.length*E),q0,ai q1 (up (by decide)),bI,aj _,q2,by lia,by lia,?_⟩,λxs hx x hx'=>xB (q2 xs hx x hx') q0 (ai q1 (up (by decide))) (up (by decide)),ps.length*E,⟨q,2^(ps.length*E),q0,ai q1 (up (by decide)),bI,aj _,tn,by lia,by lia,by lia⟩,bn,q,q0,tn⟩;have:min R.length A.length*(ps.length*E+4)<=8*904:=aJ (by lia) (by lia)
 lia
end
inductive Ag (K:FG9) (C:Addr) (vs:List V) (H:Hp) (Q:VK) (E9:XK):Prop
 | mk (x:Addr) (T e:Nat) (H0:Hp) (mv pt lk:LR9):vs=[.ref x,.int T]->T<=99->iW K H0 H C x mv pt lk->dr mv pt lk->JJ mv pt lk->Q9 (bC mv mv.length) lk e->(∀r Hd H',H r=none->aH H H'->bo K H H' r Hd->Tr (bC mv mv.length) lk mv.length T e Hd->Q (.ref r) H')->Ag K C vs H Q E9
def StT (n w T:Nat):Prop:=T<=12/\(9 < w->T<=3)/\(3 < n->n<=5->T<=5)/\(n=3->T<=6)
structure V51 (A lk:LR9) (T e:Nat):Prop where
 un:Q9 A lk e
 ad:Q3 A lk T
 lw:∃S,Ta (kry A lk T) A.length S
 ft:∃k j,2*e+k+j<=3930/\∀xs∈kry A lk T,lE k j xs
section
variable {A lk pk:LR9} {T w e:Nat}
theorem GH (B:Bd A lk M1 M2 Vx a1 a2 c) (D:dr A lk pk) (hn:A.length<=n) (n15:n<=15) (sz:2*(n*(c*T+(a1*(T - 1)+a2)+4)+(a1*(T - 1)+a2))<=3990):(∃S,Ta (kry A lk T) A.length S)/\∀xs∈kry A lk T,lE (a1*(T - 1)+a2) (c*T) xs:=by
 have f:=B.kry D T;have M0:0 < M1^(T - 1)*M2:=bQ (mL B.m1) B.m2
 have hM:M1^(T - 1)*M2<=2^(a1*(T - 1)+a2):=by
  rw[bg];exact aJ (ai (kn B.b1 _) (by rw[<- xo];exact aj _)) B.b2
 refine ⟨⟨_,(Ov.lws (w:=c*T+(a1*(T - 1)+a2)) (a:=a1*(T - 1)+a2) ⟨_,2^(c*T+(a1*(T - 1)+a2)),M0,hM,bI,aj _,λxs hx x hx'=>Tp.of (f xs hx x hx') (by rw[bg];exact aY _ hM),by lia,?_⟩ (fb rfl D.pw T)).lwt⟩,λxs hx=>⟨_,_,M0,hM,aj _,f xs hx⟩⟩;have:min (kry A lk T).length A.length*(c*T+(a1*(T - 1)+a2)+4)<=n*(c*T+(a1*(T - 1)+a2)+4):=ay _ (by lia)
 lia
theorem IU (G:Rg A lk w) (D:dr A lk pk) (St:StT A.length w T):∃e,V51 A lk T e:=by
 obtain ⟨s1,s2,s3,s4⟩:=St;have tri:∀{n N:Nat} (E e:Nat),n<=N->(∀p,p<=N->(N - p)*(p*E+4)<=e)->∀p,p<=n->(n - p)*(p*E+4)<=e:=λE e hn h p hp=>ai (ay _ (by lia)) (h p (by lia))
 rcases G with ⟨_,B⟩ | ⟨_,n5,B⟩ | ⟨w1,n2,M1,M2,B⟩
 ·obtain ⟨l1,l2⟩:=GH (T:=T) (n:=8) B D D.n8 (by decide) (by lia);refine ⟨1650,⟨D.n8,D.mw,D.pw,⟨0,14,EK (M:=1) (V1:=9^3) (n0:=8) (by decide) (by decide) D.n8 (by decide) B.gm B.gp (by decide),?_,λp hp=>?_⟩,by decide⟩,⟨_,_,_,_,_,_,B,by lia⟩,l1,⟨_,_,by lia,l2⟩⟩
  ·exact ai (aJ D.n8 (show (A.length - 1)*(0+14)+4<=102 by have:=D.n8;lia)) (by decide)
  ·have:=tri 102 1650 D.n8 (by decide) p hp;exact ai (aY _ (DD (aY _ (by have:=D.n8;lia)) _)) this
 ·obtain ⟨l1,l2⟩:(∃S,Ta (kry A lk T) A.length S)/\∀xs∈kry A lk T,lE (12*(T - 1)+12) (16*T) xs:=by
   rcases (show A.length<=2\/A.length=3\/3 < A.length by lia) with h | h | h
   ·exact GH (n:=2) B D h (by decide) (by lia)
   ·have:=s4 h;exact GH (n:=3) B D (by lia) (by decide) (by lia)
   ·have:=s3 h n5;exact GH (n:=5) B D n5 (by decide) (by lia)
  refine ⟨720,⟨D.n8,D.mw,D.pw,⟨12,16,EK (M:=2520) (V1:=9^3*9) (n0:=5) (by decide) (by decide) n5 (by decide) B.gm B.gp (by decide),?_,λp hp=>?_⟩,by decide⟩,⟨_,_,_,_,_,_,B,by lia⟩,l1,⟨_,_,by lia,l2⟩⟩
  ·exact ai (aJ n5 (show (A.length - 1)*(12+16)+4<=116 by lia)) (by decide)
  ·have:=tri 116 720 n5 (by decide) p hp;exact ai (aY _ (DD (aY _ (by lia)) _)) this
 ·have t3:=s2 (by lia);obtain ⟨l1,l2⟩:=GH (T:=T) (n:=2) B D n2 (by decide) (by lia);have fm:GF (M1*M2) (9^3*2^20) A:=λxs hx x hx'=>(B.gm xs hx x hx').scale M2
  have fp:GF (M1*M2) (9^3*2^20) lk:=λxs hx x hx'=>(B.gp xs hx x hx').scaleL M1
  have hM:M1*M2<=2^240:=ai (aJ B.b1 B.b2) (by rw[<- bg];exact aj _);refine ⟨600,⟨D.n8,D.mw,D.pw,⟨240,32,EK (n0:=2) (bQ B.m1 B.m2) hM n2 (by decide) fm fp (by decide),?_,λp hp=>?_⟩,by decide⟩,⟨_,_,_,_,_,_,B,by lia⟩,l1,⟨_,_,by lia,l2⟩⟩
  ·exact ai (aJ n2 (show (A.length - 1)*(240+32)+4<=276 by lia)) (by decide)
  ·have:=tri 276 600 n2 (by decide) p hp;exact ai (aY _ (DD (aY _ (by lia)) _)) this
theorem qQ.symm (h:qQ xs ys):qQ ys xs:=by obtain ⟨k,j,k',j',a,b,c⟩:=h;exact ⟨k',j',k,j,b,a,by lia⟩
end
section
theorem vg {M V:Nat} {f:Nat->Rat}:∀k,(∀i,i < k->Fr M V (f i))->Fr M (k*V) (be k f)
 | 0,_=>Fr.zero
 | k+1,h=>by
  rw[gH];exact (vg k λi hi=>h i (by lia)).add (h k (by lia))
variable {d j n w M:Nat} {go ws:List Rat} {rows:LR9}
end
section
variable {α β γ:Type} [DecidableEq α] [DecidableEq β] [DecidableEq γ] (k1:Kind α) (k2:Kind β) (k3:Kind γ)
theorem vals3 (r:cQ [x,y,z] us):∃u v w,us=[u,v,w]/\RelV x u/\RelV y v/\RelV z w:=by
 cases r with
 | cons a r=>cases r with
  | cons b r=>cases r with
   | cons c r=>cases r;exact ⟨_,_,_,rfl,a,b,c⟩
def e3 (a b:α×β×γ) (j:Nat):Bool:=if j=0 then decide (a.1=b.1) else if j=1 then decide (a.2.1=b.2.1) else decide (a.2.2=b.2.2)
theorem qU {X:Cx} {pins:List (Addr×Obj)} {σ:St} {H:Hp} {s:Shared} {A:Around} (I:Inv X pins σ H s) (h1:A.units+k1.d < cLine) (h2:A.units+k2.d < cLine) (h3:A.units+k3.d < cLine) {x y z x' y' z':V} {us ws:List Value} {a b:α×β×γ}
  (rx:cQ [x,y,z] us) (ry:cQ [x',y',z'] ws) (a1:k1.R X.K H x a.1) (a2:k2.R X.K H y a.2.1) (a3:k3.R X.K H z a.2.2) (b1:k1.R X.K H x' b.1) (b2:k2.R X.K H y' b.2.1) (b3:k3.R X.K H z' b.2.2) :
  ∀j (h1:j < us.toArray.size) (h2:j < ws.toArray.size),SeqAt.EqAt A s us.toArray[j] ws.toArray[j] (e3 a b j):=λj l1 l2=>by
 obtain ⟨u1,u2,u3,rfl,r1,r2,r3⟩:=vals3 rx;obtain ⟨w1,w2,w3,rfl,q1,q2,q3⟩:=vals3 ry;have hj:j < 3:=by simpa using l1
 rcases (show j=0\/j=1\/j=2 by lia) with rfl | rfl | rfl
 ·exact k1.eq (A:=A) I r1 q1 a1 b1 h1
 ·exact k2.eq (A:=A) I r2 q2 a2 b2 h2
 ·exact k3.eq (A:=A) I r3 q3 a3 b3 h3
theorem xA {a b:α×β×γ}:(List.range 3).all (e3 a b)=decide (a=b):=by
 have e:List.range 3=[0,1,2]:=rfl;rw[e];simp only[Rn,List.all_nil,Bool.and_true];show (decide (a.1=b.1) && (decide (a.2.1=b.2.1) && decide (a.2.2=b.2.2)))=_
 rw[<- Bool.decide_and,<- Bool.decide_and];exact decide_eq_decide.mpr ⟨λ⟨h1,h2,h3⟩=>Prod.ext h1 (Prod.ext h2 h3),λh=>by rw[h];exact ⟨rfl,rfl,rfl⟩⟩
def OV:Kind (α×β×γ) where
 R:=λK H x a=>∃p u v w,x=.ref p/\mP K H p [u,v,w]/\k1.R K H u a.1/\k2.R K H v a.2.1/\k3.R K H w a.2.2
 d:=max k1.d (max k2.d k3.d)+1
 inj:=λ{X pins σ H s x a b} I h1 h2=>by
  obtain ⟨p,u,v,w,rfl,hp,a1,a2,a3⟩:=h1;obtain ⟨q,u',v',w',e,hq,b1,b2,b3⟩:=h2;cases e;have e:=I.tuple_inj hp hq;cases e;exact Prod.ext (k1.inj I a1 b1) (Prod.ext (k2.inj I a2 b2) (k3.inj I a3 b3))
 rc:=λ{X pins σ H s x y v u a b A} I rx ry h1 h2 hA=>by
  obtain ⟨p,x1,x2,x3,rfl,hp,a1,a2,a3⟩:=h1;obtain ⟨q,y1,y2,y3,rfl,hq,b1,b2,b3⟩:=h2;cases rx;cases ry;obtain ⟨us,r1,t1,_⟩:=I.tuple hp;obtain ⟨ws,r2,t2,_⟩:=I.tuple hq;have l1:=r1.length;have l2:=r2.length;have z:=SeqAt.RcAt.tuples (A:=A) (e:=e3 a b) (show s.heap.IsTuple p us.toArray from t1) (show s.heap.IsTuple q ws.toArray from t2) (by lia) (qU k1 k2 k3 (A:=A.in1) I (by show A.units+1+k1.d < cLine;lia) (by show A.units+1+k2.d < cLine;lia) (by show A.units+1+k3.d < cLine;lia) r1 r2 a1 a2 a3 b1 b2 b3);have e1:us.toArray.size=3:=by rw[aQ,<- l1];rfl
  have e2:ws.toArray.size=3:=by rw[aQ,<- l2];rfl
  rw[e1,e2,Nat.min_self,xA] at z;simpa using z
 ne:=λ{X pins σ H s x y v u a b A} I rx ry h1 h2 hA=>by
  obtain ⟨p,x1,x2,x3,rfl,hp,a1,a2,a3⟩:=h1;obtain ⟨q,y1,y2,y3,rfl,hq,b1,b2,b3⟩:=h2;cases rx;cases ry;obtain ⟨us,r1,t1,_⟩:=I.tuple hp;obtain ⟨ws,r2,t2,_⟩:=I.tuple hq;have l1:=r1.length;have l2:=r2.length;have z:=SeqAt.RcNeAt.tuples (A:=A) (e:=e3 a b) (show s.heap.IsTuple p us.toArray from t1) (show s.heap.IsTuple q ws.toArray from t2) (by lia) (qU k1 k2 k3 (A:=A.in1) I (by show A.units+1+k1.d < cLine;lia) (by show A.units+1+k2.d < cLine;lia) (by show A.units+1+k3.d < cLine;lia) r1 r2 a1 a2 a3 b1 b2 b3);have e1:us.toArray.size=3:=by rw[aQ,<- l1];rfl
  have e2:ws.toArray.size=3:=by rw[aQ,<- l2];rfl
  rw[e1,e2,Nat.min_self,xA] at z;simpa using z
 eq:=λ{X pins σ H s x y v u a b A} I rx ry h1 h2 hA=>by
  obtain ⟨p,x1,x2,x3,rfl,hp,a1,a2,a3⟩:=h1;obtain ⟨q,y1,y2,y3,rfl,hq,b1,b2,b3⟩:=h2;cases rx;cases ry;by_cases e:p=q
  ·subst e;have e:=I.tuple_inj hp hq;cases e;have e2:a=b:=Prod.ext (k1.inj I a1 b1) (Prod.ext (k2.inj I a2 b2) (k3.inj I a3 b3));rw[decide_eq_true e2];exact SeqAt.EqAt.same _
  ·obtain ⟨us,r1,t1,_⟩:=I.tuple hp;obtain ⟨ws,r2,t2,_⟩:=I.tuple hq;have l1:=r1.length;have l2:=r2.length;have z:=SeqAt.RcAt.tuples (A:=A) (e:=e3 a b) (show s.heap.IsTuple p us.toArray from t1) (show s.heap.IsTuple q ws.toArray from t2) (by lia) (qU k1 k2 k3 (A:=A.in1) I (by show A.units+1+k1.d < cLine;lia) (by show A.units+1+k2.d < cLine;lia) (by show A.units+1+k3.d < cLine;lia) r1 r2 a1 a2 a3 b1 b2 b3);have e1:us.toArray.size=3:=by rw[aQ,<- l1];rfl
   have e2:ws.toArray.size=3:=by rw[aQ,<- l2];rfl
   rw[e1,e2,Nat.min_self,xA] at z;exact .of_refs e (by simpa using z)
end
section
variable {mv:LR9} {M:Int}
theorem zV:(kq n a).length=n:=by unfold kq;rw[ag,bX]
end
section
variable {mv pt lk F R:LR9} {n m:Nat} {ps:List Nat} {x:Nat->Rat} {st pu:List Rat}
end
section
variable {mv pt lk F:LR9} {M1 M2 M3 E V1 V0 a c n0 n:Nat}
theorem Bc {M V i j:Nat} (h:GF M V rows):Fr M V (br rows i j):=by
 unfold br;rw[aa (l:=rows)];cases ei:rows[i]? with
 | none=>show Fr M V (([]:List Rat).getD j 0);exact Fr.zero
 | some xs =>
  show Fr M V (xs.getD j 0)
  rw[aa];cases ej:xs[j]? with
  | none=>exact Fr.zero
  | some y=>exact h xs (ar ei) y (ar ej)
end
inductive Ao (K:FG9) (vs:List V) (H:Hp) (Q:VK) (E9:XK):Prop
 | mk (p q:Addr) (w:Nat) (H0 H1:Hp) (one other:LR9):vs=[.ref p,.ref q,.int w]->bo K H0 H p one->bo K H1 H q other->one.length<=1000->other.length<=1000->w<=1000->((∀xs∈one,xs.length=other.length/\∀ys∈bC other w,qQ ys xs))->(∀xs∈other,xs.length=w)->(∀r H',H r=none->aH H H'->bo K H H' r (gO one other w)->Q (.ref r) H')->Ao K vs H Q E9
section
variable {X:Cx} {CX:MH} {k:Nat} {f C:Addr} {fd:FuncData} {ps:List Str} {sp:Sp} {dvs:List V} {ds:List Value} {E:St->XK} {x n:Str} {p pos hpos np:Pos} {e:Expr} {es:List Expr} {t:TA}
end
open PySem.W
def k6 (inv mv rows:LR9) (n:Nat):LR9:=gO (gO inv mv n) (bC rows n) n
def mI (inv pt:LR9):LR9:=pt.map λxs=>inv.map λr=>cS r xs
def IS (w:List Rat) (rows:LR9) (n:Nat):List Rat:=(List.range n).map λi=>be n λk=>w.getD k 0*br rows k i
theorem sI {rows:LR9} (h:rows[i]?=some xs):br (rows.map f) i j=(f xs).getD j 0:=by
 unfold br;rw[aa (l:=rows.map f),aD,h];rfl
theorem gE (h:rows[i]?=some xs):br rows i j=xs.getD j 0:=by
 unfold br;rw[aa (l:=rows),h];rfl
theorem EG {rows:LR9} {f:List Rat->Rat} (h:rows[i]?=some xs):(rows.map f).getD i 0=f xs:=by
 rw[aa,aD,h];rfl
theorem El {f:Nat->Rat} (h:i < n):((List.range n).map f).getD i 0=f i:=by
 rw[aa,aD,cR h];rfl
theorem ir (h:i < w):br (bC rows w) i j=br rows j i:=by
 unfold bC;rw[gE (xs:=rows.map λxs=>xs.getD i 0) (by rw[aD,cR h];rfl)];unfold br;rw[aa,aa (l:=rows),aD];cases rows[j]? <;> rfl
theorem Mw (hw:∀r∈rows,r.length=n) (hx:xs.length=n) (hi:i < rows.length):(rows.map λr=>cS r xs).getD i 0=be n λa=>br rows i a*xs.getD a 0:=by
 have e:=af hi;have l:=hw _ (aE hi);rw[EG e,dm (by lia),l];exact aA λa _=>by rw[gE e]
theorem KQ (hi:i < one.length) (ho:∀xs∈one,xs.length=other.length) (hj:j < w):br (gO one other w) i j=be other.length λl=>br one i l*br other l j:=by
 have e:=af hi;have l:=ho _ (aE hi);unfold gO;rw[sI e];unfold bC;rw[fD,El hj];show cS (other.map λxs=>xs.getD j 0) _=_
 rw[dm (by rw[ag];lia),ag];refine aA λa ha=>?_
 rw[gE e,b6];congr 1;rw[EG (af ha),gE (af ha)]
theorem EV {xs ys:List Rat} (h1:xs.length=n) (h2:ys.length=n) (h:∀i,i < n->xs.getD i 0=ys.getD i 0):xs=ys:=by
 refine eI (by lia) λi a b=>?_
 have:=h i (by lia);rw[aa,aa,af a,af b] at this;exact this
theorem DU:(IS w rows n).length=n:=by simp [IS]
theorem FJ (h:i < n):(IS w rows n).getD i 0=be n λk=>w.getD k 0*br rows k i:=El h
section
variable {inv mv pt lk rows:LR9} {n:Nat} {own pu:List Rat}
theorem fA (hi:qB inv n):(k6 inv mv rows n).length=n:=by unfold k6 gO;rw[ag,ag,hi.1]
theorem L8:∀xs∈k6 inv mv rows n,xs.length=n:=λxs hx=>by
 unfold k6 gO at hx;obtain ⟨ys,_,rfl⟩:=aw.mp hx;rw[ag,cO]
theorem OA:∀xs∈gO one other n,xs.length=n:=λxs hx=>by
 unfold gO at hx;obtain ⟨ys,_,rfl⟩:=aw.mp hx;rw[ag,cO]
theorem A7 (hi:qB inv n) (hm:qB mv n) (h1:i < n) (h2:k < n):br (k6 inv mv rows n) i k=be n λc=>(be n λa=>br inv i a*br mv a c)*br rows k c:=by
 unfold k6;rw[KQ (by unfold gO;rw[ag,hi.1];exact h1) (λxs hx=>by rw[cO];exact OA xs hx) h2,cO];refine aA λc hc=>?_
 rw[ir hc,KQ (by rw[hi.1];exact h1) (λxs hx=>by rw[hi.2 xs hx,hm.1]) hc,hm.1]
theorem Lz (h:xm (bC rows n) inv n) (ha:a < n) (hd:d < n):(be n λi=>br rows i a*br inv i d)=if a=d then 1 else 0:=by
 rw[<- h a ha d hd];exact aA λi _=>by rw[ir ha]
theorem PD (h:xm (bC rows n) inv n) (hw:∀i,i < n->w.getD i 0=be n λd=>br inv i d*f d):IS w rows n=(List.range n).map f:=by
 refine EV DU (by simp) λa ha=>?_
 rw[FJ ha,El ha]
 have e:(be n λk=>w.getD k 0*br rows k a)=be n λd=>(be n λk=>br rows k a*br inv k d)*f d:=by
  rw[aA (g:=λk=>be n λd=>br rows k a*br inv k d*f d) λk hk=>by
   rw[hw k hk,b6,<- b7];exact aA λd _=>by grind]
  rw[df];refine aA λd _=>?_
  rw[b6,<- b7];exact aA λk _=>by grind
 rw[e,aA (g:=λd=>(if a=d then 1 else 0)*f d) λd hd=>by rw[Lz h ha hd],My ha]
theorem PC (h:xm inv (bC rows n) n) (hi:i < n) (ho:own.length=n):(be n λa=>br inv i a*(IS own rows n).getD a 0)=own.getD i 0:=by
 have e:(be n λa=>br inv i a*(IS own rows n).getD a 0)=be n λk=>(be n λa=>br inv i a*br (bC rows n) a k)*own.getD k 0:=by
  rw[aA (g:=λa=>be n λk=>br inv i a*br (bC rows n) a k*own.getD k 0) λa ha=>by
   rw[FJ ha,<- b7];exact aA λk _=>by rw[ir ha];grind]
  rw[df];refine aA λk _=>?_
  rw[b6,<- b7];exact aA λa _=>by grind
 rw[e,aA (g:=λk=>(if i=k then 1 else 0)*own.getD k 0) λk hk=>by rw[h i hi k hk],My hi]
theorem HY (hi:qB inv n) (hp:∀xs∈pt,xs.length=n) (h1:p < pt.length) (h2:i < n):br (mI inv pt) p i=be n λd=>br inv i d*br pt p d:=by
 have e:=af h1;unfold mI;rw[sI e,Mw hi.2 (hp _ (aE h1)) (by rw[hi.1];exact h2)];exact aA λd _=>by rw[gE e]
theorem L7 (h:xm (bC rows n) inv n) (hi:qB inv n) (hr:qB rows n) (D:dr mv pt lk) (ln:mv.length=n) (D':dr (k6 inv mv rows n) (mI inv pt) lk') (lo:own.length=n) (lu:pu.length=pt.length) :
  IS (gV (k6 inv mv rows n) (mI inv pt) own pu) rows n=gV mv pt (IS own rows n) pu:=by
 have hm:qB mv n:=⟨ln,λxs hx=>by rw[D.mw xs hx,ln]⟩;have lp:(mI inv pt).length=pt.length:=by unfold mI;rw[ag]
 have lM:=fA (mv:=mv) (rows:=rows) hi;rw[PD h (f:=λd=>(be n λc=>br mv d c*(IS own rows n).getD c 0)+be pt.length λp=>pu.getD p 0*br pt p d) λi hi'=>?_]
 ·refine EV (n:=n) (by simp) (by unfold gV;rw[cJ,cO];lia) λa ha=>?_
  rw[El ha,sv D (by rw[DU];lia) lu (by lia),ln]
 ·rw[sv D' (by rw[lM];exact lo) (by rw[lp];exact lu) (by rw[lM];exact hi'),lM,lp]
  have e1:(be n λj=>br (k6 inv mv rows n) i j*own.getD j 0)=be n λd=>br inv i d*be n λc=>br mv d c*(IS own rows n).getD c 0:=by
   have a1:(be n λj=>br (k6 inv mv rows n) i j*own.getD j 0)=be n λc=>(be n λa=>br inv i a*br mv a c)*(IS own rows n).getD c 0:=by
    rw[aA (g:=λj=>be n λc=>(be n λa=>br inv i a*br mv a c)*(own.getD j 0*br rows j c)) λj hj=>by
     rw[A7 hi hm hi' hj,b6,<- b7];exact aA λc _=>by grind]
    rw[df];exact aA λc hc=>by rw[FJ hc,<- b7]
   rw[a1,aA (g:=λc=>be n λa=>br inv i a*(br mv a c*(IS own rows n).getD c 0)) λc _=>by
    rw[b6,<- b7];exact aA λa _=>by grind]
   rw[df];exact aA λa _=>b7
  have e2:(be pt.length λp=>pu.getD p 0*br (mI inv pt) p i)=be n λd=>br inv i d*be pt.length λp=>pu.getD p 0*br pt p d:=by
   rw[aA (g:=λp=>be n λd=>br inv i d*(pu.getD p 0*br pt p d)) λp hp=>by
    rw[HY hi (λxs hx=>by rw[D.pw xs hx,ln]) hp hi',<- b7];exact aA λd _=>by grind]
   rw[df];exact aA λa _=>b7
  rw[e1,e2,<- kd];exact aA λd _=>by grind
theorem N5 (hr:qB rows n) (ly:ys.length=n) (lo:own.length=n):cS (rows.map λr=>cS r ys) own=cS ys (IS own rows n):=by
 rw[dm (by rw[ag,hr.1];lia),ag,hr.1,dm (by rw[DU];exact ly),ly]
 rw[aA (g:=λk=>be n λa=>ys.getD a 0*(own.getD k 0*br rows k a)) λk hk=>by
  rw[Mw hr.2 ly (by rw[hr.1];exact hk),b6,<- b7];exact aA λa _=>by grind]
 rw[df];exact aA λa ha=>by rw[FJ ha,<- b7]
theorem oh (hr:qB rows n):qB (bC rows n) n:=⟨cO,λxs hx=>by rw[lO xs hx,hr.1]⟩
end
theorem k9 {M V w:Nat} (h:GF M V rows):GF M V (bC rows w):=λys hy y hy'=>by
 obtain ⟨j,_,rfl⟩:=aw.mp hy;obtain ⟨xs,hx,rfl⟩:=aw.mp hy';rw[aa];cases e:xs[j]? with
 | none=>exact Fr.zero
 | some z=>exact h xs hx z (ar e)
theorem fB {M V k j:Nat} (h:GF M V rows) (M0:0 < M) (hM:M<=2^k) (hV:V<=2^j):∀xs∈rows,lE k j xs:=λxs hx=>⟨M,V,M0,hM,hV,h xs hx⟩
theorem sF {M V k j:Nat} (h:GF M V rows) (M0:0 < M) (hM:M<=2^k) (hV:V<=2^j) (hk:k+j<=3990):∀xs∈rows,∀x∈xs,mQ x:=λxs hx x hx'=>qe M0 hM hV hk (h xs hx x hx')
theorem vS {M N V W w:Nat} (h1:GF N W one) (h2:GF M V other):GF (M*N) (other.length*(V*W)) (gO one other w):=λxs hx x hx'=>by
 unfold gO at hx;obtain ⟨os,ho,rfl⟩:=aw.mp hx;obtain ⟨ys,hy,rfl⟩:=aw.mp hx';have l:=lO ys hy;rw[<- l];exact Fr.dot (k9 h2 ys hy) (h1 os ho)
theorem Gj {M N V W n:Nat} (h1:GF N W one) (h2:GF M V other) (hw:∀xs∈one,xs.length=n):GF (N*M) (n*(W*V)) (other.map λxs=>one.map λr=>cS r xs):=λzs hz z hz'=>by
 obtain ⟨xs,hx,rfl⟩:=aw.mp hz;obtain ⟨r,hr,rfl⟩:=aw.mp hz';have:=Fr.dot (h1 r hr) (h2 xs hx);rwa [hw r hr] at this
theorem lh {M V W:Nat} (h:GF M V rows) (hv:V<=W):GF M W rows:=λxs hx x hx'=>(h xs hx x hx').mono hv
section
variable {mv pt lk rows inv:LR9} {M1 M2 V a1 a2 c Mr D n:Nat}
theorem vd (h1:x<=2^i) (h2:y<=2^j) (h:i+j<=k):x*y<=2^k:=ai (aJ h1 h2) (by rw[<- bg];exact ao (by decide) h)
structure Pa (mv pt lk rows inv:LR9):Prop where
 f1:∀xs∈inv,∀ys∈bC mv mv.length,qQ ys xs
 f2:∀xs∈gO inv mv mv.length,∀ys∈bC (bC rows mv.length) mv.length,qQ ys xs
 f3:∀ys∈pt,∀xs∈inv,qQ xs ys
 f4:∀ys∈lk,∀xs∈rows,qQ xs ys
 g1:GS (k6 inv mv rows mv.length)
 g2:GS (mI inv pt)
 g3:GS (lk.map λxs=>rows.map λr=>cS r xs)
end
theorem qd (D:dr mv pt lk) (hi:qB inv mv.length) (hr:qB rows mv.length):dr (k6 inv mv rows mv.length) (mI inv pt) (lk.map λxs=>rows.map λr=>cS r xs):=by
 have lM:=fA (mv:=mv) (rows:=rows) hi;refine ⟨by rw[lM];exact D.n8,by unfold mI;rw[ag];exact D.i4,by rw[ag];exact D.o4,λxs hx=>by rw[lM];exact L8 xs hx,λxs hx=>?_,λxs hx=>?_⟩
 ·obtain ⟨ys,_,rfl⟩:=aw.mp hx;rw[ag,lM,hi.1]
 ·obtain ⟨ys,_,rfl⟩:=aw.mp hx;rw[ag,lM,hr.1]
inductive IG (K:FG9) (C:Addr) (vs:List V) (H:Hp) (Q:VK) (E9:XK):Prop
 | mk (x:Addr) (H0:Hp) (mv pt lk:LR9):vs=[.ref x]->iW K H0 H C x mv pt lk->(∀r H',aH H H'->eo K H0 H' r mv pt lk->Q (.ref r) H')->IG K C vs H Q E9
inductive FE (K:FG9) (C:Addr) (vs:List V) (H:Hp) (Q:VK) (E9:XK):Prop
 | mk (x:Addr) (H0:Hp) (mv pt lk:LR9):vs=[.ref x,.int mv.length,.int pt.length,.int lk.length]->iW K H0 H C x mv pt lk->dr mv pt lk->GS mv->GS pt->GS lk->(∀H',aH H H'->Q (.bl true) H')->FE K C vs H Q E9
def kK (R:LR9) (ps:List Nat) (n:Nat):LR9:=R++(di ps n).map λa=>kq n ((a:Nat):Int)
def stC (R:LR9) (ps:List Nat) (n:Nat):LR9:=ps.map (λa=>kq n ((a:Nat):Int))++bA R ps n
theorem DJ (h:c < n):(kq n ((a:Nat):Int)).getD c 0=if c=a then 1 else 0:=by
 unfold kq;rw[aa,aD,cR h];by_cases e:c=a
 ·subst e;simp
 ·have:¬(c:Int)=(a:Int):=by lia
  simp [this,e]
theorem LN {l:List Nat} (h:t < l.length):br (l.map f) t c=(f (l.getD t 0)).getD c 0:=by
 unfold br;rw[aa (l:=List.map f l),aD,aa (l:=l),af h];rfl
theorem Jq (hs:s < (di ps n).length) (ht:t < (di ps n).length) (e:(di ps n).getD s 0=(di ps n).getD t 0):s=t:=by
 have nd:(di ps n).Nodup:=GX Fg KE;rw[aa,aa,af hs,af ht] at e;exact (List.getElem_inj nd).mp e
section
variable {rows R mv pt:LR9} {ps:List Nat} {n:Nat}
theorem Em (RR:aO rows n R ps) (hi:i < ps.length) (hj:j < ps.length) (e:ps.getD i 0=ps.getD j 0):i=j:=by
 rcases dZ i j with q | q | q
 ·have:=RR.2.2.inc i j q hj;lia
 ·exact q
 ·have:=RR.2.2.inc j i q hi;lia
theorem kL (RR:aO rows n R ps):(di ps n).length+ps.length=n:=Ml RR.2.2.inc RR.2.2.low
theorem CU (ht:t < (di ps n).length):(di ps n).getD t 0 < n/\(di ps n).getD t 0∉ps:=qg.mp (getD_in ht)
theorem Ct (RR:aO rows n R ps) (ha:a < ps.length):br (kK R ps n) a i=br R a i:=by
 unfold kK;rw[yB (by rw[RR.1];exact ha)]
theorem Cs (RR:aO rows n R ps) (ht:t < (di ps n).length) (hi:i < n):br (kK R ps n) (ps.length+t) i=if i=(di ps n).getD t 0 then 1 else 0:=by
 unfold kK;rw[<- RR.1,qA,LN ht,DJ hi]
theorem vm (ha:a < ps.length) (hi:i < n):br (stC R ps n) a i=if i=ps.getD a 0 then 1 else 0:=by
 unfold stC;rw[yB (by rw[ag];exact ha),LN ha,DJ hi]
theorem yG (ht:t < (di ps n).length):br (stC R ps n) (ps.length+t) i=(so R ps n ((di ps n).getD t 0)).getD i 0:=by
 unfold stC bA;have:=qA (X:=ps.map λa=>kq n ((a:Nat):Int)) (Y:=(di ps n).map (so R ps n)) (i:=t);rw[ag] at this;rw[this,LN ht]
theorem oY (RR:aO rows n R ps):qB (kK R ps n) n:=by
 have:=kL RR;refine ⟨by unfold kK;rw[av,ag,RR.1];lia,λxs hx=>?_⟩;rcases az.mp hx with hx | hx
 ·exact RR.2.1 xs hx
 ·obtain ⟨a,_,rfl⟩:=aw.mp hx;exact zV
theorem jS (RR:aO rows n R ps):qB (stC R ps n) n:=by
 have:=kL RR;refine ⟨by unfold stC bA;rw[av,ag,ag];lia,λxs hx=>?_⟩;rcases az.mp hx with hx | hx
 ·obtain ⟨a,_,rfl⟩:=aw.mp hx;exact zV
 ·exact vO xs hx
theorem Jc (RR:aO rows n R ps) (hj:j < ps.length) (ha:a∉ps):(so R ps n a).getD (ps.getD j 0) 0=-(br R j a):=by
 unfold so;rw[LH (RR.2.2.low j hj),if_neg (λe=>ha (by rw[<- e];exact getD_in hj)),cV hj λi hi ne=>if_neg λz=>ne (Em RR hi hj z),if_pos rfl]
theorem Jd (RR:aO rows n R ps) (ht:t < (di ps n).length) (hk:k < ps.length):(be n λj=>(so R ps n ((di ps n).getD t 0)).getD j 0*br R k j)=0:=by
 obtain ⟨f1,f2⟩:=CU ht;have hk':k < R.length:=by rw[RR.1];exact hk
 have w:=RR.2.1 _ (aE hk');have d:=ym (vz RR) f1 f2 (af hk') w;rw[dm (by rw[w];exact jL.symm),w] at d;refine Eq.trans (aA λj _=>?_) d;rw[gE (af hk'),b6]
theorem KZ (RR:aO rows n R ps):xm (stC R ps n) (bC (kK R ps n) n) n:=λi hi k hk=>by
 have cn:=kL RR;rw[aA (g:=λj=>br (stC R ps n) i j*br (kK R ps n) k j) λj hj=>by rw[ir hj]];rcases bV i ps.length with h1 | h1
 ·have lo:=RR.2.2.low i h1;rw[cV lo λj hj ne=>by rw[vm h1 hj,if_neg ne,dw],vm h1 lo,if_pos rfl,fL];rcases bV k ps.length with h2 | h2
  ·rw[Ct RR h2,RR.2.2.unit k h2 i h1];by_cases e:i=k
   ·rw[if_pos e,if_pos e.symm]
   ·rw[if_neg e,if_neg λz=>e z.symm]
  ·obtain ⟨t,rfl⟩:=iq h2;have ht:t < (di ps n).length:=by lia
   rw[Cs RR ht lo,if_neg (λe=>(CU ht).2 (by rw[<- e];exact getD_in h1)),if_neg (by lia)]
 ·obtain ⟨s,rfl⟩:=iq h1;have hs:s < (di ps n).length:=by lia
  rcases bV k ps.length with h2 | h2
  ·rw[aA (g:=λj=>(so R ps n ((di ps n).getD s 0)).getD j 0*br R k j) λj _=>by rw[yG hs,Ct RR h2],Jd RR hs h2,if_neg (by lia)]
  ·obtain ⟨t,rfl⟩:=iq h2;have ht:t < (di ps n).length:=by lia
   obtain ⟨f1,f2⟩:=CU ht;rw[cV f1 λj hj ne=>by rw[Cs RR ht hj,if_neg ne,cL],Cs RR ht f1,if_pos rfl,qO,yG hs,pQ f1 f2];by_cases e:s=t
   ·subst e;rw[if_pos rfl,if_pos rfl]
   ·rw[if_neg λz=>e (Jq ht hs z).symm,if_neg (by lia)]
theorem Iz (RR:aO rows n R ps):xm (bC (kK R ps n) n) (stC R ps n) n:=λi hi k hk=>by
 have cn:=kL RR;rw[aA (g:=λj=>br (kK R ps n) j i*br (stC R ps n) j k) λj _=>by rw[ir hi]]
 have sp:be n (λj=>br (kK R ps n) j i*br (stC R ps n) j k)=be ps.length (λj=>br (kK R ps n) j i*br (stC R ps n) j k)+be (di ps n).length λt=>br (kK R ps n) (ps.length+t) i*br (stC R ps n) (ps.length+t) k:=by
  rw[<- oo,show ps.length+(di ps n).length=n by lia]
 rw[sp,aA (g:=λj=>br R j i*if k=ps.getD j 0 then 1 else 0) λj hj=>by rw[Ct RR hj,vm hj hk]];rw[aA (k:=(di ps n).length) (g:=λt=>(if i=(di ps n).getD t 0 then 1 else 0)*(so R ps n ((di ps n).getD t 0)).getD k 0) λt ht=>by rw[Cs RR ht hi,yG ht]]
 have e1:∀j,j < ps.length->ps.getD j 0=k->(be ps.length λj=>br R j i*if k=ps.getD j 0 then 1 else 0)=br R j i:=λj hj e=>by
  rw[cV hj λl hl ne=>by rw[if_neg λz=>ne (Em RR hl hj (by rw[<- z,e])),cL],if_pos e.symm,qO]
 have e1':k∉ps->(be ps.length λj=>br R j i*if k=ps.getD j 0 then 1 else 0)=0:=λh=>cC λj hj=>by rw[if_neg λz=>h (by rw[z];exact getD_in hj),cL]
 have e2:i∉ps->(be (di ps n).length λt=>(if i=(di ps n).getD t 0 then 1 else 0)*(so R ps n ((di ps n).getD t 0)).getD k 0)=(so R ps n i).getD k 0:=λh=>by
  obtain ⟨t,ht,et⟩:=aK (qg.mpr ⟨hi,h⟩);have eg:(di ps n).getD t 0=i:=by rw[aa,af ht,et];rfl
  rw[cV ht λs hs ne=>by rw[if_neg λz=>ne (Jq hs ht (by rw[<- z,eg])),dw],if_pos eg.symm,fL,eg]
 have e2':i∈ps->(be (di ps n).length λt=>(if i=(di ps n).getD t 0 then 1 else 0)*(so R ps n ((di ps n).getD t 0)).getD k 0)=0:=λh=>cC λt ht=>by rw[if_neg λz=>(CU ht).2 (by rw[<- z];exact h),dw]
 have ix:∀{x},x∈ps->∃j,j < ps.length/\ps.getD j 0=x:=λh=>by
  obtain ⟨j,hj,e⟩:=aK h;exact ⟨j,hj,by rw[aa,af hj,e];rfl⟩
 by_cases pk:k∈ps
 ·obtain ⟨j,hj,ej⟩:=ix pk;rw[e1 j hj ej];by_cases pi:i∈ps
  ·obtain ⟨l,hl,el⟩:=ix pi;rw[e2' pi,iD,<- el,RR.2.2.unit j hj l hl,<- ej];by_cases e:j=l
   ·subst e;rw[if_pos rfl,if_pos rfl]
   ·rw[if_neg e,if_neg λz=>e (Em RR hl hj z).symm]
  ·rw[e2 pi,<- ej,Jc RR hj pi,ej,if_neg λz=>pi (by rw[z];exact pk),Rat.add_neg_cancel]
 ·rw[e1' pk,JM];by_cases pi:i∈ps
  ·rw[e2' pi,if_neg λz=>pk (by rw[<- z];exact pi)]
  ·rw[e2 pi,pQ hk pk];by_cases e:k=i
   ·rw[if_pos e,if_pos e.symm]
   ·rw[if_neg e,if_neg λz=>e z.symm]
theorem K2 (RR:aO rows n R ps) (h:aO (nZ (bC (kK R ps n) n) (cW n)) (n+n) R' ps'):ps'=List.range n/\R'.map (λxs=>xs.drop n)=stC R ps n:=by
 have J:=Gg (oh (oY RR)) (jS RR) (KZ RR) (Iz RR);obtain ⟨rfl,rfl⟩:=h.same J;exact ⟨rfl,Jl xx (jS RR).1⟩
theorem OK (KF:og mv pt a c) (D8:mv.length<=8) (wm:∀xs∈mv,xs.length=mv.length) (wp:∀xs∈pt,xs.length=mv.length) (RR:aO (kry mv pt mv.length) mv.length R ps):aO (pt++R.map (ow mv)) mv.length R ps:=by
 obtain ⟨R0,ps0,G⟩:=Mh KF D8 wm wp (mv.length+1);have R1:=G.late (eH _) (aj _);have R2:=G.late (eH _) (mM mv.length);obtain ⟨rfl,rfl⟩:=RR.same R1;exact F8 rfl wm wp R1 R2
theorem Px (wp:∀xs∈pt,xs.length=mv.length) (RR:aO (kry mv pt mv.length) mv.length R ps) (B:aO (pt++R.map (ow mv)) mv.length R ps) (hx:xs∈pt) (hz:z∈bA R ps mv.length):cS z xs=0:=by
 obtain ⟨a,h1,h2,rfl⟩:=lT hz;obtain ⟨i,hi,rfl⟩:=aK hx;rw[yx];exact ym B h1 h2 (i:=i) (by rw[cx hi,af hi]) (wp _ hx)
theorem M6 (RR:aO (kry mv pt mv.length) mv.length R ps) (B:aO (pt++R.map (ow mv)) mv.length R ps) (hx:xs∈R) (hz:z∈bA R ps mv.length):cS z (ow mv xs)=0:=by
 obtain ⟨a,h1,h2,rfl⟩:=lT hz;obtain ⟨i,hi,rfl⟩:=aK hx;rw[yx];exact ym B h1 h2 (i:=pt.length+i) (by rw[bW (by lia),Nat.add_sub_cancel_left,aD,af hi];rfl) uO
end
structure BR (mv pt lk R:LR9) (M1 M2 V a1 a2 c q E:Nat):Prop where
 B:Bd mv pt M1 M2 V a1 a2 c
 q0:0 < q
 q1:q<=2^E
 rt:∀xs∈R,∀x∈xs,Tp q (2^E) x
 e1:4*E+a1+a2+c+3<=3900
 e3:2*E<=3000
 e2:mv.length*(E+4)<=8900
 lf:∃M3 V3:Nat,0 < M3/\M3<=2^400/\V3<=2^120/\GF M3 V3 lk
section
variable {mv pt lk R:LR9} {ps:List Nat} {M1 M2 V a1 a2 c q E N w n:Nat}
theorem QU (B:Bd mv pt M1 M2 V a1 a2 c) (D:dr mv pt lk) (hn:mv.length<=N) (h1:a1*(N - 1)+a2+c*N<=w):0 < M1^(mv.length - 1)*M2/\M1^(mv.length - 1)*M2<=2^w/\∀xs∈kry mv pt mv.length,∀x∈xs,Tp (M1^(mv.length - 1)*M2) (2^w) x:=by
 have q1:a1*(mv.length - 1)<=a1*(N - 1):=aY _ (by lia);have q2:c*mv.length<=c*N:=aY _ hn;have p:=rS (t:=mv.length - 1) B.b1 B.b2;refine ⟨bQ (mL B.m1) B.m2,ai p (ao (by decide) (by lia)),λxs hx x hx'=>Tp.of (B.kry D _ xs hx x hx') ?_⟩;exact vd (aj _) p (by lia)
theorem EL (B:Bd mv pt M1 M2 V a1 a2 c) (D:dr mv pt lk) (hn:mv.length<=N) (N8:N<=8) (h1:a1*(N - 1)+a2+c*N<=w) (h2:N*(w+4)<=E) (h3:2*(E+w)<=3990) (h4:a1*(N+1)+a2+c*(N+2)<=3900):Q3 mv pt mv.length/\∃S,Rh (kry mv pt mv.length) mv.length S:=by
 obtain ⟨p0,p1,t⟩:=QU B D hn h1;have q1:a1*(mv.length+1)<=a1*(N+1):=aY _ (by lia);have q2:c*(mv.length+2)<=c*(N+2):=aY _ (by lia);have q3:min (kry mv pt mv.length).length mv.length*(w+4)<=N*(w+4):=ay _ (by lia);exact ⟨⟨M1,M2,V,a1,a2,c,B,by lia⟩,_,Ov.lws (w:=w) (a:=w) ⟨_,2^w,p0,p1,bI,aj _,t,by lia,by lia⟩ (fb rfl D.pw _)⟩
theorem oT (B:Bd mv pt M1 M2 V a1 a2 c) (D:dr mv pt lk) (F:JJ mv pt lk) (hn:mv.length<=N) (N8:N<=8) (h1:a1*(N - 1)+a2+c*N<=w) (h2:N*(w+4)<=E) (h3:4*E+a1+a2+c+3<=3900) (h5:2*E<=3000) (h4:N*(E+4)<=8900) (h6:w<=4000) (RR:aO (kry mv pt mv.length) mv.length R ps):∃q,BR mv pt lk R M1 M2 V a1 a2 c q E:=by
 obtain ⟨p0,p1,t⟩:=QU B D hn h1;have q3:min (kry mv pt mv.length).length mv.length*(w+4)<=N*(w+4):=ay _ (by lia);have q4:mv.length*(E+4)<=N*(E+4):=ay _ hn;have S:zF (kry mv pt mv.length) mv.length w:=⟨_,2^w,p0,ai p1 (ao (by decide) (by lia)),bI,aj _,t,by lia,by lia,by lia⟩;obtain ⟨_,q,q0,q1,tq⟩:=Lf (fb rfl D.pw _) S RR;have up:(2:Nat)^(min (kry mv pt mv.length).length mv.length*(w+4))<=2^E:=ao (by decide) (by lia);exact ⟨q,B,q0,ai q1 up,λxs hx x hx'=>(tq xs hx x hx').mono up,h3,h5,by lia,let ⟨M,W,a,b,c,_,_,d⟩:=F;⟨M,W,a,b,c,d⟩⟩
theorem LY (h:Rg mv pt w) (D:dr mv pt lk):Q3 mv pt mv.length/\∃S,Rh (kry mv pt mv.length) mv.length S:=by
 rcases h with ⟨_,B⟩ | ⟨_,n5,B⟩ | ⟨_,n2,M1,M2,B⟩
 ·exact EL (N:=8) (w:=112) (E:=928) B D D.n8 (by decide) (by decide) (by decide) (by decide) (by decide)
 ·exact EL (N:=5) (w:=140) (E:=720) B D n5 (by decide) (by decide) (by decide) (by decide) (by decide)
 ·exact EL (N:=2) (w:=306) (E:=620) B D n2 (by decide) (by decide) (by decide) (by decide) (by decide)
theorem Ph (h:Rg mv pt w) (D:dr mv pt lk) (F:JJ mv pt lk) (RR:aO (kry mv pt mv.length) mv.length R ps):∃M1 M2 V a1 a2 c q E,BR mv pt lk R M1 M2 V a1 a2 c q E:=by
 rcases h with ⟨_,B⟩ | ⟨_,n5,B⟩ | ⟨_,n2,M1,M2,B⟩
 ·exact ⟨_,_,_,_,_,_,let ⟨q,z⟩:=oT (N:=8) (w:=112) (E:=928) B D F D.n8 (by decide) (by decide) (by decide) (by decide) (by decide) (by decide) (by decide) RR;⟨q,_,z⟩⟩
 ·exact ⟨_,_,_,_,_,_,let ⟨q,z⟩:=oT (N:=5) (w:=140) (E:=720) B D F n5 (by decide) (by decide) (by decide) (by decide) (by decide) (by decide) (by decide) RR;⟨q,_,z⟩⟩
 ·exact ⟨_,_,_,_,_,_,let ⟨q,z⟩:=oT (N:=2) (w:=306) (E:=620) B D F n2 (by decide) (by decide) (by decide) (by decide) (by decide) (by decide) (by decide) RR;⟨q,_,z⟩⟩
theorem KL (h:M<=W):∀x∈kq n a,Tp M W x:=λx hx=>by
 obtain ⟨i,_,rfl⟩:=aw.mp hx
 split
 ·exact ⟨M,by rw[fL,bf],by simpa using h⟩
 ·exact Tp.zero
theorem BR.tb (z:BR mv pt lk R M1 M2 V a1 a2 c q E):∀xs∈kK R ps n,∀x∈xs,Tp q (2^E) x:=λxs hx x hx'=>by
 rcases az.mp hx with hx | hx
 ·exact z.rt xs hx x hx'
 ·obtain ⟨a,_,rfl⟩:=aw.mp hx;exact KL z.q1 x hx'
theorem BR.tc (z:BR mv pt lk R M1 M2 V a1 a2 c q E) (RR:aO rows n R ps):∀xs∈stC R ps n,∀x∈xs,Tp q (2^E) x:=λxs hx x hx'=>by
 rcases az.mp hx with hx | hx
 ·obtain ⟨a,_,rfl⟩:=aw.mp hx;exact KL z.q1 x hx'
 ·obtain ⟨a,_,_,rfl⟩:=lT hx;exact LD z.q0 z.q1 z.rt RR x hx'
theorem Ir (h:∀xs∈rows,∀x∈xs,Tp M W x):∀xs∈bC rows w,∀x∈xs,Tp M W x:=λys hy y hy'=>by
 obtain ⟨j,_,rfl⟩:=aw.mp hy;obtain ⟨xs,hx,rfl⟩:=aw.mp hy';rw[aa];cases e:xs[j]? with
 | none=>exact Tp.zero
 | some z=>exact h xs hx z (ar e)
theorem BR.sw (z:BR mv pt lk R M1 M2 V a1 a2 c q E) (n8:mv.length<=8) (RR:aO rows mv.length R ps):zF (nZ (bC (kK R ps mv.length) mv.length) (cW mv.length)) (mv.length+mv.length) E :=
 LZ (M:=q) (oh (oY RR)) (by lia) z.q0 z.q1 (by have:=z.e3;lia) (Ir z.tb) z.e2
theorem BR.fit (z:BR mv pt lk R M1 M2 V a1 a2 c q E) (n8:mv.length<=8) (RR:aO rows mv.length R ps):Pa mv pt lk (kK R ps mv.length) (stC R ps mv.length):=by
 have e1:=z.e1;have e3:=z.e3;have v1:=z.B.v1;have gb:GF q (2^E) (kK R ps mv.length):=λxs hx x hx'=>(z.tb xs hx x hx').fr z.q0
 have gc:GF q (2^E) (stC R ps mv.length):=λxs hx x hx'=>(z.tc RR xs hx x hx').fr z.q0
 have im:GF (M1*q) (2^(c+E)) (gO (stC R ps mv.length) mv mv.length):=lh (vS gc z.B.gm) (by
  rw[<- b8,bg];exact ay _ (ai (ay _ (fO _ 4)) z.B.vc))
 have m0:0 < M1*q:=bQ z.B.m1 z.q0;have m1:M1*q<=2^(a1+E):=vd z.B.b1 z.q1 (aj _)
 have iM:GF (q*(M1*q)) (2^(3+E+(c+E))) (k6 (stC R ps mv.length) mv (kK R ps mv.length) mv.length):=lh (vS im (k9 gb)) (by
  rw[cO,<- b8,bg 2 (3+E)];exact ay _ (vd (i:=3) (by lia) (aj _) (aj _)))
 have iP:GF (q*M2) (2^(c+E)) (mI (stC R ps mv.length) pt):=lh (Gj gc z.B.gp (jS RR).2) (by
  rw[cw (2^E),<- b8,bg];exact ay _ (ai (ay _ (fO _ 4)) z.B.vc))
 obtain ⟨M3,V3,l0,l1,l2,lg⟩:=z.lf;have iL:GF (q*M3) (2^(3+(E+120))) (lk.map λxs=>(kK R ps mv.length).map λr=>cS r xs):=lh (Gj gb lg (oY RR).2) (vd (i:=3) (by lia) (vd (aj _) l2 (aj _)) (aj _))
 refine ⟨λxs hx ys hy=>⟨_,_,_,_,fB (k9 z.B.gm) z.B.m1 z.B.b1 v1 ys hy,fB gc z.q0 z.q1 (aj _) xs hx,by lia⟩,
  λxs hx ys hy=>⟨_,_,_,_,fB (k9 (k9 gb)) z.q0 z.q1 (aj _) ys hy,fB im m0 m1 (aj _) xs hx,by lia⟩,
  λys hy xs hx=>⟨_,_,_,_,fB gc z.q0 z.q1 (aj _) xs hx,fB z.B.gp z.B.m2 z.B.b2 v1 ys hy,by lia⟩,
  λys hy xs hx=>⟨_,_,_,_,fB gb z.q0 z.q1 (aj _) xs hx,fB lg l0 l1 l2 ys hy,by lia⟩,
  λxs hx x hx'=>xC (sF iM (bQ z.q0 m0) (vd z.q1 m1 (aj _)) (aj _) (by lia) xs hx x hx'),
  λxs hx x hx'=>xC (sF iP (bQ z.q0 z.B.m2) (vd z.q1 z.B.b2 (aj _)) (aj _) (by lia) xs hx x hx'),
  λxs hx x hx'=>xC (sF iL (bQ z.q0 l0) (vd z.q1 l1 (aj _)) (aj _) (by lia) xs hx x hx')⟩
theorem M8 (wm:∀xs∈mv,xs.length=mv.length) (RR:aO (kry mv pt mv.length) mv.length R ps) (B:aO (pt++R.map (ow mv)) mv.length R ps):∀xs∈(k6 (stC R ps mv.length) mv (kK R ps mv.length) mv.length).drop ps.length,xs.take ps.length=List.replicate ps.length 0:=λxs hx=>by
 have cn:=kL RR;have hm:qB mv mv.length:=⟨rfl,wm⟩;have hC:=jS RR;have wx:=L8 xs (DF hx);obtain ⟨s,hs,rfl⟩:=aK hx;rw[zJ,fA hC] at hs;rw[JQ] at wx ⊢;have ht:s < (di ps mv.length).length:=by lia
 apply eI (by rw[aR,bw,wx];lia);intro j h1 h2;rw[bw] at h2;rw[xr,List.getElem_replicate];have e:=A7 (rows:=kK R ps mv.length) hC hm (i:=ps.length+s) (k:=j) (by lia) (by lia);rw[gE (af (by rw[fA hC];lia)),aa,af (by rw[wx];lia)] at e;refine Eq.trans e ?_;have hj:j < R.length:=by rw[RR.1];exact h2
 have hz:so R ps mv.length ((di ps mv.length).getD s 0)∈bA R ps mv.length:=aw.mpr ⟨_,getD_in ht,rfl⟩;have d:=M6 RR B (aE hj) hz;rw[dm (by rw[uO];exact jL),show (so R ps mv.length ((di ps mv.length).getD s 0)).length=mv.length from jL] at d
 rw[aA (g:=λc=>be mv.length λa=>(so R ps mv.length ((di ps mv.length).getD s 0)).getD a 0*(br mv a c*br R j c)) λc _=>by
  rw[Ct RR h2,b6,<- b7];exact aA λa _=>by rw[yG ht];grind]
 rw[df];refine Eq.trans (aA λa ha=>?_) d;rw[b7];congr 1;have:=Jb rfl wm RR.2.1 hj a;rw[sI (af hj)] at this;exact this.symm
theorem M7 (wp:∀xs∈pt,xs.length=mv.length) (RR:aO (kry mv pt mv.length) mv.length R ps) (B:aO (pt++R.map (ow mv)) mv.length R ps):∀xs∈mI (stC R ps mv.length) pt,xs.drop ps.length=List.replicate (mv.length - ps.length) 0:=λxs hx=>by
 have cn:=kL RR;obtain ⟨ys,hy,rfl⟩:=aw.mp hx;unfold stC;rw[b9,qP (by simp),iE (by simp),cT];refine List.eq_replicate_iff.mpr ⟨by rw[ag];unfold bA;rw[ag];lia,λx hx=>?_⟩;obtain ⟨z,hz,rfl⟩:=aw.mp hx;exact Px wp RR B hy hz
end
inductive FF (K:FG9) (C:Addr) (vs:List V) (H:Hp) (Q:VK) (E9:XK):Prop
 | mk (x r:Addr) (w:Nat) (H0 H1:Hp) (mv pt lk rows inv:LR9):vs=[.ref x,.ref r]->iW K H0 H C x mv pt lk->dr mv pt lk->bo K H1 H r rows->qB rows mv.length->zF (nZ (bC rows mv.length) (cW mv.length)) (mv.length+mv.length) w →
   (∀R ps,aO (nZ (bC rows mv.length) (cW mv.length)) (mv.length+mv.length) R ps->ps=List.range mv.length/\R.map (λxs=>xs.drop mv.length)=inv)->qB inv mv.length->Pa mv pt lk rows inv →
   (∀z H',aH H H'->iW K H H' C z (k6 inv mv rows mv.length) (mI inv pt) (lk.map λxs=>rows.map λr=>cS r xs)->Q (.ref z) H')->FF K C vs H Q E9
inductive IL (K:FG9) (vs:List V) (H:Hp) (Q:VK) (E9:XK):Prop
 | mk (p:Addr) (n:Nat) (H0:Hp) (R:LR9) (ps:List Nat):vs=[.ref p,.int n]->bo K H0 H p R->R.length<=100->n<=100->(∃rows,aO rows n R ps)->(∀r H',H r=none->aH H H'->bo K H H' r ((di ps n).map λa=>kq n ((a:Nat):Int))->Q (.ref r) H')->IL K vs H Q E9
inductive IE (K:FG9) (C:Addr) (vs:List V) (H:Hp) (Q:VK) (E9:XK):Prop
 | mk (x:Addr) (a c:Nat) (H0:Hp) (mv pt lk:LR9):vs=[.ref x]->iW K H0 H C x mv pt lk->dr mv pt lk->og mv pt a c->(∀t l R ps H',aO (kry mv pt mv.length) mv.length R ps->H l=none->aH H H'->H' t=some (.tup [.ref l,.int ps.length])->bo K H H' l (kK R ps mv.length)->Q (.ref t) H')->IE K C vs H Q E9
theorem yF {f:Nat->Rat}:∀k,be (k+1) f=f 0+be k λi=>f (i+1)
 | 0=>by show (0:Rat)+f 0=f 0+0;grind
 | k+1=>by
  show be (k+1) f+f (k+1)=_
  rw[yF k];show _=f 0+(be k (λi=>f (i+1))+f (k+1))
  grind
theorem Fq:∀{n:Nat} {f:Nat->Rat},be n (λc=>f (n - 1 - c))=be n f
 | 0,_=>rfl
 | n+1,f=>by
  rw[yF (f:=λc=>f (n+1 - 1 - c))];show f (n+1 - 1 - 0)+be n (λc=>f (n+1 - 1 - (c+1)))=be n f+f n
  rw[aA (g:=λc=>f (n - 1 - c)) λc hc=>by rw[show n+1 - 1 - (c+1)=n - 1 - c by lia],Fq (n:=n) (f:=f)];show f n+_=_
  grind
section
variable {rows R R' U:LR9} {ps ps' pu:List Nat} {n:Nat}
theorem RX (hw:∀xs∈rows,xs.length=n) (hc:c < n):br (rows.map List.reverse) i c=br rows i (n - 1 - c):=by
 rcases bV i rows.length with hi | hi
 ·have w:=hw _ (aE hi);rw[sI (af hi),gE (af hi),aa,List.getElem?_reverse (by lia),aa,w]
 ·unfold br;rw[aa (l:=List.map _ rows),aS (by rw[ag];exact hi),aa (l:=rows),aS hi];exact List.getD_nil.trans List.getD_nil.symm
theorem DK (RR:aO rows n R ps) (RN:aO (bA R ps n) n U pu) (ht:t < pu.length) (hi:i < rows.length):(be n λc=>br rows i c*br U t c)=0:=by
 obtain ⟨w,hw⟩:=RR.2.2.span i hi;have ht':t < U.length:=by rw[RN.1];exact ht
 have wu:=RN.2.1 _ (aE ht')
 have k:∀j,j < ps.length->(be n λc=>br R j c*br U t c)=0:=λj hj=>by
  have hj':j < R.length:=by rw[RR.1];exact hj
  have wr:=RR.2.1 _ (aE hj');have d:=Ho RR RN _ (aE ht') _ (aE hj');rw[dm (by lia),wu] at d;refine Eq.trans (aA λc _=>?_) d;rw[gE (af hj'),gE (af ht'),b6]
 rw[aA (g:=λc=>be ps.length λj=>w j*(br R j c*br U t c)) λc _=>by
  rw[hw c,b6,<- b7];exact aA λj _=>by grind,df]
 exact cC λj hj=>by rw[b7,k j hj,cL]
theorem Fl (hw:∀xs∈rows,xs.length=n) (RR:aO rows n R ps) (RN:aO (bA R ps n) n U pu) (RV:aO (rows.map List.reverse) n R' ps') (ht:t < pu.length) (hj:j < ps'.length):(be n λc=>br R' j (n - 1 - c)*br U t c)=0:=by
 obtain ⟨w,e⟩:=RV.2.2.back j hj;rw[ag] at e
 rw[aA (g:=λc=>be rows.length λi=>w i*(br rows i c*br U t c)) λc hc=>by
  rw[e (n - 1 - c),b6,<- b7];exact aA λi _=>by rw[RX hw (by lia),show n - 1 - (n - 1 - c)=c by lia];grind,df]
 exact cC λi hi=>by rw[b7,DK RR RN ht hi,cL]
theorem Fm (hw:∀xs∈rows,xs.length=n) (RR:aO rows n R ps) (RN:aO (bA R ps n) n U pu) (RV:aO (rows.map List.reverse) n R' ps') (ht:t < pu.length) (hj:j < ps'.length):pu.getD t 0≠n - 1 - ps'.getD j 0:=λe=>by
 have lo:=RN.2.2.low t ht;have lv:=RV.2.2.low j hj;have k:=Fl hw RR RN RV ht hj;rw[cV lo λc hc ne=>?_] at k
 ·have u1:=RN.2.2.unit t ht t ht;have u2:=RV.2.2.unit j hj j hj;rw[if_pos rfl] at u1 u2;rw[u1,e,show n - 1 - (n - 1 - ps'.getD j 0)=ps'.getD j 0 by lia,u2,qO] at k;exact absurd k (by decide)
 ·rcases bV c (pu.getD t 0) with h | h
  ·rw[RN.2.2.lead t ht c h,cL]
  ·rw[RV.2.2.lead j hj (n - 1 - c) (by lia),dw]
theorem Ox (hw:∀xs∈rows,xs.length=n) (RR:aO rows n R ps) (RN:aO (bA R ps n) n U pu) (RV:aO (rows.map List.reverse) n R' ps') (ha:a < n) (hp:a∉ps'):∃s,s < pu.length/\pu.getD s 0=n - 1 - a:=by
 have dead:∀i,i < rows.length->(be n λc=>br rows i c*(if c < n then (so R' ps' n a).getD (n - 1 - c) 0 else 0))=0:=λi hi=>by
  have w:=hw _ (aE hi);have d:=ym RV ha hp (i:=i) (row:=rows[i].reverse) (by rw[aD,af hi];rfl) (by rw[td];exact w);rw[dm (by rw[td,w];exact jL.symm),td,w] at d;rw[<- Fq] at d;refine Eq.trans (aA λc hc=>?_) d;rw[if_pos hc,gE (af hi),aa (l:=rows[i].reverse),List.getElem?_reverse (by lia),w,show n - 1 - (n - 1 - c)=c by lia,<- aa]
 have sp:=CN RR (x:=λc=>if c < n then (so R' ps' n a).getD (n - 1 - c) 0 else 0) (λc hc=>if_neg (by lia)) λj hj=>by
  obtain ⟨w,e⟩:=RR.2.2.back j hj
  rw[aA (g:=λc=>be rows.length λi=>w i*(br rows i c*(if c < n then (so R' ps' n a).getD (n - 1 - c) 0 else 0))) λc hc=>by
   rw[e c,b6,<- b7];exact aA λi _=>by grind,df]
  exact cC λi hi=>by rw[b7,dead i hi,cL]
 refine RN.2.2.lead_in (eG.trans (λt ht=>RN.2.2.span t ht) sp) (c:=n - 1 - a) ?_ λc hc=>?_
 ·show (if n - 1 - a < n then _ else _)≠(0:Rat)
  rw[if_pos (by lia),show n - 1 - (n - 1 - a)=a by lia,pQ ha hp,if_pos rfl];decide
 ·show (if c < n then _ else _)=(0:Rat)
  rw[if_pos (by lia)];by_cases q:n - 1 - c∈ps'
  ·obtain ⟨j,hj,e⟩:=aK q;have ej:ps'.getD j 0=n - 1 - c:=by rw[aa,af hj,e];rfl
   rw[<- ej,Jc RV hj hp,RV.2.2.lead j hj a (by lia)];grind
  ·rw[pQ (by lia) q,if_neg (by lia)]
theorem Ro (hw:∀xs∈rows,xs.length=n) (RR:aO rows n R ps) (RN:aO (bA R ps n) n U pu) (RV:aO (rows.map List.reverse) n R' ps') (qW:q<=W) (tR:∀xs∈R',∀x∈xs,Tp q W x):∀xs∈U,∀x∈xs,Tp q W x:=EU λt ht c=>by
 rw[RN.1] at ht;rcases bV c n with hc | hc
 ·by_cases hp:n - 1 - c∈ps'
  ·obtain ⟨j,hj,e⟩:=aK hp;have ej:ps'.getD j 0=n - 1 - c:=by rw[aa,af hj,e];rfl
   have ap:=Fm hw RR RN RV ht hj;rw[ej,show n - 1 - (n - 1 - c)=c by lia] at ap;have k:=Fl hw RR RN RV ht hj;have u1:=RV.2.2.unit j hj j hj;rw[if_pos rfl,ej] at u1;have lo:=RN.2.2.low t ht;rw[aA (g:=λd=>(if d=c then br U t c else 0)+(if d=pu.getD t 0 then br R' j (n - 1 - pu.getD t 0) else 0)) λd hd=>?_,kd,cV hc λd _ ne=>if_neg ne,if_pos rfl,cV lo λd _ ne=>if_neg ne,if_pos rfl] at k
   ·rw[show br U t c=-(br R' j (n - 1 - pu.getD t 0)) by grind];exact (Oz tR _ _).neg
   ·by_cases dc:d=c
    ·subst dc;rw[if_pos rfl,if_neg (λz=>ap z.symm),u1,fL,iD]
    ·rw[if_neg dc,JM];by_cases dp:n - 1 - d∈ps'
     ·obtain ⟨l,hl,el'⟩:=aK dp;have el:ps'.getD l 0=n - 1 - d:=by rw[aa,af hl,el'];rfl
      have u2:=RV.2.2.unit j hj l hl;rw[if_neg (λz=>dc (by rw[<- z,ej] at el;lia)),el] at u2;have ap2:=Fm hw RR RN RV ht hl;rw[u2,dw,if_neg (λz=>ap2 (by rw[el];lia))]
     ·obtain ⟨s,hs,es⟩:=Ox hw RR RN RV (a:=n - 1 - d) (by lia) dp;rw[show n - 1 - (n - 1 - d)=d by lia] at es;have u3:=RN.2.2.unit t ht s hs;rw[es] at u3;rw[u3];by_cases ts:t=s
      ·subst ts;rw[if_pos rfl,if_pos es.symm,es,qO]
      ·rw[if_neg ts,cL,if_neg (λz=>ts (Em RN ht hs (by rw[es,z])))]
  ·obtain ⟨s,hs,es⟩:=Ox hw RR RN RV (a:=n - 1 - c) (by lia) hp;rw[show n - 1 - (n - 1 - c)=c by lia] at es;have u3:=RN.2.2.unit t ht s hs;rw[es] at u3;rw[u3]
   split
   ·exact ⟨q,by rw[fL,bf],by simpa using qW⟩
   ·exact Tp.zero
 ·rw[qh RN.2.1 hc];exact Tp.zero
end
def qC (U:LR9) (pu:List Nat) (n:Nat):LR9:=((di pu n).map λa=>kq n ((a:Nat):Int))++U
def vo (U:LR9) (pu:List Nat) (n:Nat):LR9:=bA U pu n++pu.map λa=>kq n ((a:Nat):Int)
section
variable {rows U:LR9} {pu:List Nat} {n:Nat}
theorem IT (RN:aO rows n U pu) (ht:t < (di pu n).length):br (qC U pu n) t c=br (kK U pu n) (pu.length+t) c:=by
 unfold qC kK;rw[yB (by rw[ag];exact ht),<- RN.1,qA]
theorem La (RN:aO rows n U pu) (hj:j < pu.length):br (qC U pu n) ((di pu n).length+j) c=br (kK U pu n) j c:=by
 unfold qC kK;have:=qA (X:=(di pu n).map λa=>kq n ((a:Nat):Int)) (Y:=U) (i:=j);rw[ag] at this;rw[this,yB (by rw[RN.1];exact hj)]
theorem CJ (ht:t < (di pu n).length):br (vo U pu n) t c=br (stC U pu n) (pu.length+t) c:=by
 unfold vo stC;have:=qA (X:=pu.map λa=>kq n ((a:Nat):Int)) (Y:=bA U pu n) (i:=t);rw[ag] at this;rw[yB (by unfold bA;rw[ag];exact ht),this]
theorem ON (hj:j < pu.length):br (vo U pu n) ((di pu n).length+j) c=br (stC U pu n) j c:=by
 unfold vo stC;have:=qA (X:=bA U pu n) (Y:=pu.map λa=>kq n ((a:Nat):Int)) (i:=j);rw[show (bA U pu n).length=(di pu n).length by unfold bA;rw[ag]] at this;rw[this,yB (by rw[ag];exact hj)]
theorem DY:xs∈qC U pu n↔xs∈kK U pu n:=by unfold qC kK;rw[az,az,Or.comm]
theorem DX:xs∈vo U pu n↔xs∈stC U pu n:=by unfold vo stC;rw[az,az,Or.comm]
theorem vp (RN:aO rows n U pu):qB (qC U pu n) n:=by
 have h:=oY RN;refine ⟨?_,λxs hx=>h.2 xs (DY.mp hx)⟩;have:=h.1;unfold kK at this;unfold qC;rw[av] at this ⊢
 lia
theorem kN (RN:aO rows n U pu):qB (vo U pu n) n:=by
 have h:=jS RN;refine ⟨?_,λxs hx=>h.2 xs (DX.mp hx)⟩;have:=h.1;unfold stC at this;unfold vo;rw[av] at this ⊢
 lia
theorem OM (RN:aO rows n U pu):xm (vo U pu n) (bC (qC U pu n) n) n:=λi hi k hk=>by
 have cn:=kL RN
 have key:∀x,x < n->∃y,y < n/\(∀c,br (vo U pu n) x c=br (stC U pu n) y c)/\(∀c,br (qC U pu n) x c=br (kK U pu n) y c)/\y=if x < (di pu n).length then pu.length+x else x - (di pu n).length:=λx hx=>by
  rcases bV x (di pu n).length with h | h
  ·exact ⟨pu.length+x,by lia,λc=>CJ h,λc=>IT RN h,by rw[if_pos h]⟩
  ·obtain ⟨j,rfl⟩:=iq h;exact ⟨j,by lia,λc=>ON (by lia),λc=>La RN (by lia),by rw[if_neg (by lia)];lia⟩
 obtain ⟨i',hi',ci,_,ei⟩:=key i hi;obtain ⟨k',hk',_,bk,ek⟩:=key k hk;have:=KZ RN i' hi' k' hk';rw[aA (g:=λj=>br (stC U pu n) i' j*br (bC (kK U pu n) n) j k') λj hj=>by rw[ir hj,ir hj,ci,bk],this];by_cases e:i=k
 ·subst e;rw[if_pos (by rw[ei,ek]),if_pos rfl]
 ·rw[if_neg e,if_neg];rw[ei,ek]
  split <;> split <;> lia
theorem K8 (RN:aO rows n U pu):xm (bC (qC U pu n) n) (vo U pu n) n:=λi hi k hk=>by
 have cn:=kL RN;rw[<- Iz RN i hi k hk];rw[aA (g:=λj=>br (qC U pu n) j i*br (vo U pu n) j k) λj _=>by rw[ir hi]];rw[aA (f:=λj=>br (bC (kK U pu n) n) i j*br (stC U pu n) j k) (g:=λj=>br (kK U pu n) j i*br (stC U pu n) j k) λj _=>by rw[ir hi]]
 have s1:be n (λj=>br (qC U pu n) j i*br (vo U pu n) j k)=be (di pu n).length (λj=>br (qC U pu n) j i*br (vo U pu n) j k)+be pu.length λt=>br (qC U pu n) ((di pu n).length+t) i*br (vo U pu n) ((di pu n).length+t) k:=by
  rw[<- oo,show (di pu n).length+pu.length=n by lia]
 have s2:be n (λj=>br (kK U pu n) j i*br (stC U pu n) j k)=be pu.length (λj=>br (kK U pu n) j i*br (stC U pu n) j k)+be (di pu n).length λt=>br (kK U pu n) (pu.length+t) i*br (stC U pu n) (pu.length+t) k:=by
  rw[<- oo,show pu.length+(di pu n).length=n by lia]
 rw[s1,s2,aA (k:=(di pu n).length) λt ht=>by rw[IT RN ht,CJ ht],aA (k:=pu.length) λj hj=>by rw[La RN hj,ON hj],Rat.add_comm]
theorem K9 (RN:aO rows n U pu) (h:aO (nZ (bC (qC U pu n) n) (cW n)) (n+n) R' ps'):ps'=List.range n/\R'.map (λxs=>xs.drop n)=vo U pu n:=by
 have J:=Gg (oh (vp RN)) (kN RN) (OM RN) (K8 RN);obtain ⟨rfl,rfl⟩:=h.same J;exact ⟨rfl,Jl xx (kN RN).1⟩
end
section
variable {mv pt lk A R U R':LR9} {ps pu:List Nat} {M1 M2 V a1 a2 c q E N w n:Nat}
theorem SG (z:BR mv pt lk U M1 M2 V a1 a2 c q E) (n8:mv.length<=8) (hB:qB B mv.length) (hC:qB C mv.length) (tb:∀xs∈B,∀x∈xs,Tp q (2^E) x) (tc:∀xs∈C,∀x∈xs,Tp q (2^E) x):Pa mv pt lk B C/\zF (nZ (bC B mv.length) (cW mv.length)) (mv.length+mv.length) E:=by
 have e1:=z.e1;have e3:=z.e3;have v1:=z.B.v1;have gb:GF q (2^E) B:=λxs hx x hx'=>(tb xs hx x hx').fr z.q0
 have gc:GF q (2^E) C:=λxs hx x hx'=>(tc xs hx x hx').fr z.q0
 have im:GF (M1*q) (2^(c+E)) (gO C mv mv.length):=lh (vS gc z.B.gm) (by
  rw[<- b8,bg];exact ay _ (ai (ay _ (fO _ 4)) z.B.vc))
 have m0:0 < M1*q:=bQ z.B.m1 z.q0;have m1:M1*q<=2^(a1+E):=vd z.B.b1 z.q1 (aj _)
 have iM:GF (q*(M1*q)) (2^(3+E+(c+E))) (k6 C mv B mv.length):=lh (vS im (k9 gb)) (by
  rw[cO,<- b8,bg 2 (3+E)];exact ay _ (vd (i:=3) (by lia) (aj _) (aj _)))
 have iP:GF (q*M2) (2^(c+E)) (mI C pt):=lh (Gj gc z.B.gp hC.2) (by
  rw[cw (2^E),<- b8,bg];exact ay _ (ai (ay _ (fO _ 4)) z.B.vc))
 obtain ⟨M3,V3,l0,l1,l2,lg⟩:=z.lf;have iL:GF (q*M3) (2^(3+(E+120))) (lk.map λxs=>B.map λr=>cS r xs):=lh (Gj gb lg hB.2) (vd (i:=3) (by lia) (vd (aj _) l2 (aj _)) (aj _))
 refine ⟨⟨λxs hx ys hy=>⟨_,_,_,_,fB (k9 z.B.gm) z.B.m1 z.B.b1 v1 ys hy,fB gc z.q0 z.q1 (aj _) xs hx,by lia⟩,
  λxs hx ys hy=>⟨_,_,_,_,fB (k9 (k9 gb)) z.q0 z.q1 (aj _) ys hy,fB im m0 m1 (aj _) xs hx,by lia⟩,
  λys hy xs hx=>⟨_,_,_,_,fB gc z.q0 z.q1 (aj _) xs hx,fB z.B.gp z.B.m2 z.B.b2 v1 ys hy,by lia⟩,
  λys hy xs hx=>⟨_,_,_,_,fB gb z.q0 z.q1 (aj _) xs hx,fB lg l0 l1 l2 ys hy,by lia⟩,
  λxs hx x hx'=>xC (sF iM (bQ z.q0 m0) (vd z.q1 m1 (aj _)) (aj _) (by lia) xs hx x hx'),
  λxs hx x hx'=>xC (sF iP (bQ z.q0 z.B.m2) (vd z.q1 z.B.b2 (aj _)) (aj _) (by lia) xs hx x hx'),
  λxs hx x hx'=>xC (sF iL (bQ z.q0 l0) (vd z.q1 l1 (aj _)) (aj _) (by lia) xs hx x hx')⟩,?_⟩
 exact LZ (M:=q) (oh hB) (by lia) z.q0 z.q1 (by lia) (Ir tb) z.e2
theorem oU (B:Bd A lk M1 M2 V a1 a2 c) (D:dr A lk pk) (hn:A.length<=N) (N8:N<=8) (h1:a1*(N - 1)+a2+c*N<=w) (h2:N*(w+4)<=E) (h6:w<=4000) (h7:E<=8900) (RR:aO (kry A lk A.length) A.length R ps) (RN:aO (bA R ps A.length) A.length U pu):∃q,0 < q/\q<=2^E/\∀xs∈U,∀x∈xs,Tp q (2^E) x:=by
 obtain ⟨p0,p1,t⟩:=QU B D hn h1;have wk:=fb rfl D.pw A.length
 have wr:∀xs∈(kry A lk A.length).map List.reverse,xs.length=A.length:=λxs hx=>by
  obtain ⟨ys,hy,rfl⟩:=aw.mp hx;rw[td];exact wk ys hy
 have q3:min ((kry A lk A.length).map List.reverse).length A.length*(w+4)<=N*(w+4):=ay _ (by lia)
 have S:zF ((kry A lk A.length).map List.reverse) A.length w:=⟨_,2^w,p0,ai p1 (ao (by decide) (by lia)),bI,aj _,λxs hx x hx'=>by
  obtain ⟨ys,hy,rfl⟩:=aw.mp hx;exact t ys hy x (List.mem_reverse.mp hx'),by lia,by lia,by lia⟩
 obtain ⟨R',ps',_,_,X⟩:=xW wr S;obtain ⟨_,q,q0,q1,tq⟩:=Lf wr S X.rr;have up:(2:Nat)^(min ((kry A lk A.length).map List.reverse).length A.length*(w+4))<=2^E:=ao (by decide) (by lia);exact ⟨q,q0,ai q1 up,Ro wk RR RN X.rr (ai q1 up) λxs hx x hx'=>(tq xs hx x hx').mono up⟩
theorem Pk (h:Rg A lk w) (D:dr A lk pk) (RR:aO (kry A lk A.length) A.length R ps) (RN:aO (bA R ps A.length) A.length U pu):∃q E,0 < q/\q<=2^E/\E<=928/\(9 < w->E<=620)/\∀xs∈U,∀x∈xs,Tp q (2^E) x:=by
 rcases h with ⟨w9,B⟩ | ⟨w9,n5,B⟩ | ⟨w9,n2,M1,M2,B⟩
 ·obtain ⟨q,a,b,t⟩:=oU (N:=8) (w:=112) (E:=928) B D D.n8 (by decide) (by decide) (by decide) (by decide) (by decide) RR RN;exact ⟨q,_,a,b,by decide,by lia,t⟩
 ·obtain ⟨q,a,b,t⟩:=oU (N:=5) (w:=140) (E:=720) B D n5 (by decide) (by decide) (by decide) (by decide) (by decide) RR RN;exact ⟨q,_,a,b,by decide,by lia,t⟩
 ·obtain ⟨q,a,b,t⟩:=oU (N:=2) (w:=306) (E:=620) B D n2 (by decide) (by decide) (by decide) (by decide) (by decide) RR RN;exact ⟨q,_,a,b,by decide,λ_=>by decide,t⟩
theorem Pg (h:Rg mv pt w) (F:JJ mv pt lk) (n8:mv.length<=8) (q0:0 < q) (q1:q<=2^E) (E1:E<=928) (E2:9 < w->E<=620) (t:∀xs∈U,∀x∈xs,Tp q (2^E) x):∃M1 M2 V a1 a2 c,BR mv pt lk U M1 M2 V a1 a2 c q E:=by
 have lf:∃M3 V3:Nat,0 < M3/\M3<=2^400/\V3<=2^120/\GF M3 V3 lk:=let ⟨M,W,a,b,c,_,_,d⟩:=F;⟨M,W,a,b,c,d⟩
 have e2:mv.length*(E+4)<=8900:=ai (aJ n8 (show E+4<=932 by lia)) (by decide);rcases h with ⟨_,B⟩ | ⟨_,n5,B⟩ | ⟨w9,n2,M1,M2,B⟩
 ·exact ⟨_,_,_,_,_,_,B,q0,q1,t,by lia,by lia,e2,lf⟩
 ·exact ⟨_,_,_,_,_,_,B,q0,q1,t,by lia,by lia,e2,lf⟩
 ·have:=E2 (by lia);exact ⟨_,_,_,_,_,_,B,q0,q1,t,by lia,by lia,e2,lf⟩
end
section
variable {mv pt lk R U:LR9} {ps pu:List Nat} {n:Nat}
theorem RT (wm:∀xs∈mv,xs.length=mv.length) (RR:aO (kry (bC mv mv.length) lk mv.length) mv.length R ps) (B:aO (lk++R.map (ow (bC mv mv.length))) mv.length R ps) (RN:aO (bA R ps mv.length) mv.length U pu) (hj:j < pu.length):eG pu.length (br U) λa=>if a < mv.length then be mv.length λc=>br mv a c*br U j c else 0:=by
 refine eG.trans (λt ht=>RN.2.2.span t ht) (CN RR (λc hc=>if_neg (by lia)) λi hi=>?_);have hi':i < R.length:=by rw[RR.1];exact hi
 have k:=DK B RN hj (i:=lk.length+i) (by rw[av,ag];lia);rw[qA] at k;have lt:(bC mv mv.length).length=mv.length:=cO;have wt:∀xs∈bC mv mv.length,xs.length=mv.length:=λxs hx=>lO xs hx
 refine Eq.trans ?_ k;rw[aA (g:=λa=>be mv.length λc=>br R i a*(br mv a c*br U j c)) λa ha=>by rw[if_pos ha,<- b7],df];refine aA λc hc=>?_
 rw[Jb lt wt RR.2.1 hi',b6,<- b7];exact aA λa _=>by rw[ir hc];grind
theorem Nf (wm:∀xs∈mv,xs.length=mv.length) (RR:aO (kry (bC mv mv.length) lk mv.length) mv.length R ps) (B:aO (lk++R.map (ow (bC mv mv.length))) mv.length R ps) (RN:aO (bA R ps mv.length) mv.length U pu):∀xs∈(k6 (vo U pu mv.length) mv (qC U pu mv.length) mv.length).take (di pu mv.length).length,xs.drop (di pu mv.length).length=List.replicate (mv.length - (di pu mv.length).length) 0:=λxs hx=>by
 have cn:=kL RN;have hm:qB mv mv.length:=⟨rfl,wm⟩;have hC:=kN RN;have wx:=L8 xs (bG hx);obtain ⟨s,hs,rfl⟩:=aK hx;rw[aR,fA hC] at hs;rw[xr] at wx ⊢;have ht:s < (di pu mv.length).length:=by lia
 apply eI (by rw[zJ,bw,wx]);intro j h1 h2;rw[bw] at h2;rw[JQ,List.getElem_replicate];have e:=A7 (rows:=qC U pu mv.length) hC hm (i:=s) (k:=(di pu mv.length).length+j) (by lia) (by lia);rw[gE (af (by rw[fA hC];lia)),aa,af (by rw[wx];lia)] at e;refine Eq.trans e ?_;have hj:j < pu.length:=by lia
 rw[aA (g:=λc=>be mv.length λa=>(so U pu mv.length ((di pu mv.length).getD s 0)).getD a 0*(br mv a c*br U j c)) λc _=>by
  rw[La RN hj,Ct RN hj,b6,<- b7];exact aA λa _=>by rw[CJ ht,yG ht];grind]
 rw[df];obtain ⟨w,hw⟩:=RT wm RR B RN hj
 rw[aA (g:=λa=>be pu.length λt=>w t*((so U pu mv.length ((di pu mv.length).getD s 0)).getD a 0*br U t a)) λa ha=>by
  have:=hw a
  dsimp only at this
  rw[if_pos ha] at this;rw[b7,this,<- b7];exact aA λt _=>by grind,df]
 exact cC λt ht'=>by rw[b7,Jd RN ht ht',cL]
theorem Ng (wl:∀xs∈lk,xs.length=mv.length) (B:aO (lk++R.map (ow (bC mv mv.length))) mv.length R ps) (RN:aO (bA R ps mv.length) mv.length U pu):∀xs∈lk.map (λxs=>(qC U pu mv.length).map λr=>cS r xs),xs.drop (di pu mv.length).length=List.replicate (mv.length - (di pu mv.length).length) 0:=λxs hx=>by
 have cn:=kL RN;obtain ⟨ys,hy,rfl⟩:=aw.mp hx;unfold qC;rw[b9,qP (by simp),iE (by simp),cT];refine List.eq_replicate_iff.mpr ⟨by rw[ag,RN.1];lia,λx hx=>?_⟩;obtain ⟨z,hz,rfl⟩:=aw.mp hx;obtain ⟨t,ht,rfl⟩:=aK hz;obtain ⟨i,hi,rfl⟩:=aK hy;have wz:=RN.2.1 _ hz;have k:=DK B RN (t:=t) (i:=i) (by rw[<- RN.1];exact ht) (by rw[av];lia);rw[yB hi] at k;rw[dm (by rw[wz,wl _ hy]),wz];refine Eq.trans (aA λc _=>?_) k;rw[gE (af hi),gE (af ht),b6]
end
def Nc (K:FG9):Sp:=λvs H Q _=>∃b:Addr,vs=[.ref b]/\ip H b /\
 ∀t r (w:Nat) mv pt lk H',H' t=some (.tup [.ref r,.int w])->eo K H H' r mv pt lk->dr mv pt lk->JJ mv pt lk->Rg mv pt w->Rg (bC mv mv.length) lk w->1<=w->w<=1000->ip H' b->c5 b H H'->Q (.ref t) H'
inductive ID (K:FG9) (C:Addr) (vs:List V) (H:Hp) (Q:VK) (E9:XK):Prop
 | mk (x:Addr) (e:Nat) (H0:Hp) (mv pt lk:LR9):vs=[.ref x]->iW K H0 H C x mv pt lk->dr mv pt lk->JJ mv pt lk->Q9 (bC mv mv.length) lk e->(∀t l R ps U pu H',aO (kry (bC mv mv.length) lk mv.length) mv.length R ps->aO (bA R ps mv.length) mv.length U pu->H l=none->aH H H'->H' t=some (.tup [.ref l,.int (di pu mv.length).length])->bo K H H' l (qC U pu mv.length)->Q (.ref t) H')->ID K C vs H Q E9
inductive II (K:FG9) (vs:List V) (H:Hp) (Q:VK) (E9:XK):Prop
 | mk (r a:Addr) (H0:Hp) (mv pt lk:LR9) (z:List Rat):vs=[.ref r,.ref a]->eo K H0 H r mv pt lk->dr mv pt lk->dI K H a z->z.length=mv.length->(∀ys∈bC mv mv.length,qQ ys z)->(∀q H',H q=none->aH H H'->dI K H' q ((bC mv mv.length).map λys=>cS ys z)->Q (.ref q) H')->II K vs H Q E9
inductive IC (K:FG9) (vs:List V) (H:Hp) (Q:VK) (E9:XK):Prop
 | mk (r:Addr) (T:Nat) (H0:Hp) (mv pt lk:LR9):vs=[.ref r,.int T]->T<=20->eo K H0 H r mv pt lk->dr mv pt lk->Q3 (bC mv mv.length) lk T->(∀q H',H q=none->aH H H'->bo K H H' q (kry (bC mv mv.length) lk T)->Q (.ref q) H')->IC K vs H Q E9
def Tv (K:FG9) (H:Hp) (fl:Addr) (H':Hp) (qs:List Rat) (x:V):Prop:=∃q,x=V.ref q/\H q=none/\q≠fl/\dI K H' q qs
def dB (m:Nat) (rows:LR9):LR9:=rows.map λxs=>xs.take m
theorem sQ (D:dr mv pt lk) (h:m<=mv.length):dr (dB m (mv.take m)) (dB m pt) (dB m lk):=by
 have l:(dB m (mv.take m)).length=m:=by unfold dB;rw[ag,aR];lia
 have n8:=D.n8;refine ⟨by lia,by unfold dB;rw[ag];exact D.i4,by unfold dB;rw[ag];exact D.o4,λxs hx=>?_,λxs hx=>?_,λxs hx=>?_⟩
 ·obtain ⟨ys,hy,rfl⟩:=aw.mp hx;rw[l,aR,D.mw ys (bG hy)]
  lia
 ·obtain ⟨ys,hy,rfl⟩:=aw.mp hx;rw[l,aR,D.pw ys hy]
  lia
 ·obtain ⟨ys,hy,rfl⟩:=aw.mp hx;rw[l,aR,D.lw ys hy]
  lia
theorem yy (h:GS rows):GS (dB m rows):=λxs hx x hx'=>by
 obtain ⟨ys,hy,rfl⟩:=aw.mp hx;exact h ys hy x (bG hx')
theorem Iu (h:GS rows):GS (rows.take m):=λxs hx=>h xs (bG hx)
inductive IM (K:FG9) (vs:List V) (H:Hp) (Q:VK) (E9:XK):Prop
 | mk (p:Addr) (m:Nat) (H0:Hp) (rows:LR9):vs=[.ref p,.int m]->bo K H0 H p rows->rows.length<=100->(∀xs∈rows,m<=xs.length)->(∀r H',H r=none->aH H H'->bo K H H' r (dB m rows)->Q (.ref r) H')->IM K vs H Q E9
structure SR (K:FG9) (H0 H1 H:Hp) (C x l:Addr) (w m:Nat) (mv pt lk rows inv:LR9):Prop where
 S:iW K H0 H C x mv pt lk
 D:dr mv pt lk
 G:bo K H1 H l rows
 hR:qB rows mv.length
 sw:zF (nZ (bC rows mv.length) (cW mv.length)) (mv.length+mv.length) w
 iv:∀R ps,aO (nZ (bC rows mv.length) (cW mv.length)) (mv.length+mv.length) R ps->ps=List.range mv.length/\R.map (λxs=>xs.drop mv.length)=inv
 hi:qB inv mv.length
 F:Pa mv pt lk rows inv
 mn:m<=mv.length
inductive IH (K:FG9) (C:Addr) (vs:List V) (H:Hp) (Q:VK) (E9:XK):Prop
 | mk (x t l:Addr) (w m:Nat) (H0 H1:Hp) (mv pt lk rows inv:LR9):vs=[.ref x,.ref t]->H t=some (.tup [.ref l,.int m])->SR K H0 H1 H C x l w m mv pt lk rows inv->(∀z H',aH H H'->iW K H H' C z (dB m ((k6 inv mv rows mv.length).take m)) (dB m (mI inv pt)) (dB m (lk.map λxs=>rows.map λr=>cS r xs))->Q (.ref z) H')->IH K C vs H Q E9
inductive FI (K:FG9) (C:Addr) (vs:List V) (H:Hp) (Q:VK) (E9:XK):Prop
 | mk (x l:Addr) (w m:Nat) (H0 H1:Hp) (mv pt lk rows inv:LR9):vs=[.ref x,.ref l,.int m]->SR K H0 H1 H C x l w m mv pt lk rows inv->(∀r H',aH H H'->eo K H H' r (dB m ((k6 inv mv rows mv.length).take m)) (dB m (mI inv pt)) (dB m (lk.map λxs=>rows.map λr=>cS r xs))->Q (.ref r) H')->FI K C vs H Q E9
section
variable {M P L rows:LR9} {pus:LR9} {cc pu xs:List Rat} {m n:Nat}
theorem oV {l:List Rat} (h:i < m):(l.take m).getD i 0=l.getD i 0:=by
 rw[aa,eQ h,<- aa]
theorem JA (hj:j < m):br (dB m rows) i j=br rows i j:=by
 unfold dB br;rw[aa (l:=List.map _ rows),aD,aa (l:=rows)];cases rows[i]? with
 | none=>rfl
 | some ys=>exact oV hj
theorem DO (hi:i < m):br (rows.take m) i j=br rows i j:=by
 unfold br;rw[aa (l:=List.take m rows),eQ hi,<- aa]
theorem Iy (h:m<=n) (h0:∀j,m<=j->j < n->f j=0):be n f=be m f:=by
 obtain ⟨d,rfl⟩:=iq h;rw[oo,cC λt ht=>h0 (m+t) (by lia) (by lia),iD]
theorem Kt (D:dr M P L) (hm:m<=M.length) (lc:cc.length=M.length) (lu:pu.length=P.length) (h:∀i,i < m->∀j,m<=j->j < M.length->br M i j*cc.getD j 0=0):gV (dB m (M.take m)) (dB m P) (cc.take m) pu=(gV M P cc pu).take m:=by
 have l:(dB m (M.take m)).length=m:=by unfold dB;rw[ag,aR];lia
 have lP:(dB m P).length=P.length:=by unfold dB;rw[ag]
 refine EV (n:=m) (by rw[yn,l]) (by rw[aR,yn];lia) λi hi=>?_
 rw[oV hi,sv (sQ D hm) (by rw[l,aR];lia) (by rw[lP];exact lu) (by rw[l];exact hi),sv D lc lu (by lia),l,lP,Iy hm λj h1 h2=>h i hi j h1 h2];rw[aA (g:=λj=>br M i j*cc.getD j 0) λj hj=>by rw[JA hj,DO hi,oV hj],aA (k:=P.length) (g:=λk=>pu.getD k 0*br P k i) λk _=>by rw[JA hi]]
theorem Br (D:dr M P L) (hm:m<=M.length) (wp:∀xs∈pus,xs.length=P.length) (h:∀k,k<=pus.length->∀i,i < m->∀j,m<=j->j < M.length->br M i j*(mR M P (List.replicate M.length 0) pus k).getD j 0=0):∀k,k<=pus.length->mR (dB m (M.take m)) (dB m P) (List.replicate m 0) pus k=(mR M P (List.replicate M.length 0) pus k).take m
 | 0,_=>by
  rw[qX,qX,List.take_replicate];congr 1
  lia
 | k+1,hk=>by
  have e:pus[k]?=some pus[k]:=af (by lia);rw[ke e,ke e,Br D hm wp h k (by lia)];exact Kt D hm (kM bw (by lia)) (wp _ (aE _)) (h k (by lia))
theorem Of (lx:xs.length=n) (lc:cc.length=n) (hm:m<=n) (h:∀j,m<=j->j < n->xs.getD j 0*cc.getD j 0=0):cS (xs.take m) (cc.take m)=cS xs cc:=by
 rw[dm (by rw[aR,aR];lia),dm (by lia),aR,lx,show min m n=m by lia,Iy hm h];exact aA λj hj=>by rw[oV hj,oV hj]
theorem Cr (D:dr M P L) (hm:m<=M.length) (wp:∀xs∈pus,xs.length=P.length) (bM:∀xs∈M.drop m,xs.take m=List.replicate m 0) (bP:∀xs∈P,xs.drop m=List.replicate (M.length - m) 0):∀k,k<=pus.length->∀j,m<=j->j < M.length->(mR M P (List.replicate M.length 0) pus k).getD j 0=0
 | 0,_,j,_,h2=>by
  rw[qX,aa,dq,if_pos h2];rfl
 | k+1,hk,j,h1,h2=>by
  have e:pus[k]?=some pus[k]:=af (by lia);rw[ke e,sv D (kM bw (by lia)) (wp _ (aE _)) h2]
  have z1:(be M.length λi=>br M j i*(mR M P (List.replicate M.length 0) pus k).getD i 0)=0:=cC λi hi=>by
   rcases bV i m with q | q
   ·have hb:=bM (M[j]) (by rw[List.mem_iff_getElem];exact ⟨j - m,by rw[zJ];lia,by rw[JQ];congr 1;lia⟩)
    have:br M j i=0:=by
     rw[gE (af h2),<- oV (m:=m) q,hb,aa,dq,if_pos q];rfl
    rw[this,dw]
   ·rw[Cr D hm wp bM bP k (by lia) i q hi,cL]
  have z2:(be P.length λl=>(pus[k]).getD l 0*br P l j)=0:=cC λl hl=>by
   have hb:=bP (P[l]) (aE _)
   have:br P l j=0:=by
    rw[gE (af hl),aa];have e9:P[l][j]?=(P[l].drop m)[j - m]?:=by rw[List.getElem?_drop,show m+(j - m)=j by lia]
    rw[e9,hb,dq,if_pos (by lia)];rfl
   rw[this,cL]
  rw[z1,z2,iD]
end
def MK (mv pt lk pus:LR9) (i:Nat):LR9:=(List.range i).map λk=>lk.map λxs=>cS xs (mR mv pt (List.replicate mv.length 0) pus (k+1))
theorem N2:MK mv pt lk pus (i+1)=MK mv pt lk pus i++[lk.map λxs=>cS xs (mR mv pt (List.replicate mv.length 0) pus (i+1))]:=by
 unfold MK;rw[lF,b9];rfl
inductive IJ (K:FG9) (vs:List V) (H:Hp) (Q:VK) (E9:XK):Prop
 | mk (r p:Addr) (H0 H1:Hp) (mv pt lk pus:LR9):vs=[.ref r,.ref p]->eo K H0 H r mv pt lk->dr mv pt lk->bo K H1 H p pus->pus.length<=100->(∀xs∈pus,xs.length=pt.length)->(∀k pu,pus[k]?=some pu->Ot mv pt (mR mv pt (List.replicate mv.length 0) pus k) pu)->(∀k,k<=pus.length->∀ys∈lk,qQ ys (mR mv pt (List.replicate mv.length 0) pus k))->(∀q H',H q=none->aH H H'->bo K H H' q (MK mv pt lk pus pus.length)->Q (.ref q) H')->IJ K vs H Q E9
inductive IB (K:FG9) (C:Addr) (vs:List V) (H:Hp) (Q:VK) (E9:XK):Prop
 | mk (x:Addr) (a c:Nat) (H0:Hp) (mv pt lk:LR9):vs=[.ref x]->iW K H0 H C x mv pt lk->dr mv pt lk->og mv pt a c->(∀R ps,aO (kry mv pt mv.length) mv.length R ps->Pa mv pt lk (kK R ps mv.length) (stC R ps mv.length)/\∃w,zF (nZ (bC (kK R ps mv.length) mv.length) (cW mv.length)) (mv.length+mv.length) w)->(∀z R ps H',aO (kry mv pt mv.length) mv.length R ps->aH H H'->iW K H H' C z (dB ps.length ((k6 (stC R ps mv.length) mv (kK R ps mv.length) mv.length).take ps.length)) (dB ps.length (mI (stC R ps mv.length) pt)) (dB ps.length (lk.map λxs=>(kK R ps mv.length).map λr=>cS r xs))->Q (.ref z) H')->IB K C vs H Q E9
inductive IF (K:FG9) (C:Addr) (vs:List V) (H:Hp) (Q:VK) (E9:XK):Prop
 | mk (x:Addr) (e:Nat) (H0:Hp) (mv pt lk:LR9):vs=[.ref x]->iW K H0 H C x mv pt lk->dr mv pt lk->JJ mv pt lk->Q9 (bC mv mv.length) lk e->(∀R ps U pu,aO (kry (bC mv mv.length) lk mv.length) mv.length R ps->aO (bA R ps mv.length) mv.length U pu->Pa mv pt lk (qC U pu mv.length) (vo U pu mv.length)/\∃w,zF (nZ (bC (qC U pu mv.length) mv.length) (cW mv.length)) (mv.length+mv.length) w)->(∀z R ps U pu H',aO (kry (bC mv mv.length) lk mv.length) mv.length R ps->aO (bA R ps mv.length) mv.length U pu->aH H H'->iW K H H' C z (dB (di pu mv.length).length ((k6 (vo U pu mv.length) mv (qC U pu mv.length) mv.length).take (di pu mv.length).length)) (dB (di pu mv.length).length (mI (vo U pu mv.length) pt)) (dB (di pu mv.length).length (lk.map λxs=>(qC U pu mv.length).map λr=>cS r xs))->Q (.ref z) H')->IF K C vs H Q E9
theorem Qt {st pu:List Rat} (D:dr mv pt lk) (hr:∀l:List Rat,(∀y∈l,(∃xs∈mv,y∈xs)\/(∃xs∈pt,y∈xs)\/y=0)->lE k1 j1 l) (hs:lE k2 j2 (st++pu)) (sz:(k1+k2)+(j1+j2)+4<=3930):Ot mv pt st pu:=by
 have n8:=D.n8;have i4:=D.i4;obtain ⟨N,W,N0,N1,W1,fs⟩:=hs;refine ⟨λxs hx=>⟨k1,j1,k2,j2,hr xs λy hy=>.inl ⟨xs,hx,hy⟩,⟨N,W,N0,N1,W1,λx hx=>fs x (eT _ hx)⟩,by lia⟩,λkk x hx=>?_,λu hu=>qe N0 N1 W1 (by lia) (fs u (bR _ hu)),λrow hrow y hy=>?_,λu hu row hrow y hy=>?_⟩
 ·unfold nextK at hx;obtain ⟨i,hi,rfl⟩:=aK hx;rw[cJ,cO] at hi;rw[jz];have m1:mv[i]∈mv:=aE _;have m2:(bC pt mv.length)[i]'(by rw[cO];lia)∈bC pt mv.length:=aE _;generalize mv[i]=line at m1 ⊢;generalize (bC pt mv.length)[i]'(by rw[cO];lia)=col at m2 ⊢;have lc:=lO col m2;have ll:=D.mw line m1
  obtain ⟨M,V9,M0,M1,V1,fl⟩:=hr (line++col.take kk) λy hy=>by
   rcases az.mp hy with hy | hy
   ·exact .inl ⟨line,m1,hy⟩
   ·have hy:=bG hy;obtain ⟨j,_,rfl⟩:=aw.mp m2;obtain ⟨xs,hx,rfl⟩:=aw.mp hy;rw[aa];cases e:xs[j]? with
    | none=>exact .inr (.inr rfl)
    | some w=>exact .inr (.inl ⟨xs,hx,ar e⟩)
  have d:=Fr.dot fl (ys:=st++pu.take kk) (N:=N) (W:=W) λy hy=>by
   rcases az.mp hy with hy | hy
   ·exact fs y (eT _ hy)
   ·exact fs y (bR _ (bG hy))
  have l12:(line++col.take kk).length<=2^4:=by
   rw[av,aR,ll,lc]
   lia
  exact qe (bQ M0 N0) (vd M1 N1 (aj _)) (vd l12 (vd V1 W1 (aj _)) (aj _)) (by lia) d
 ·obtain ⟨M,V9,M0,M1,V1,fl⟩:=hr [y] λy' h=>by rw[cb.mp h];exact .inr (.inl ⟨row,hrow,hy⟩)
  exact qe M0 M1 V1 (by lia) (fl y (cb.mpr rfl))
 ·obtain ⟨M,V9,M0,M1,V1,fl⟩:=hr [y] λy' h=>by rw[cb.mp h];exact .inr (.inl ⟨row,hrow,hy⟩)
  exact qe (bQ N0 M0) (vd N1 M1 (aj _)) (vd W1 V1 (aj _)) (by lia) ((fs u (bR _ hu)).mul (fl y (cb.mpr rfl)))
section
variable {mv pt lk rows inv pus R U:LR9} {ps pu:List Nat} {M1 M2 V a1 a2 c q E:Nat}
theorem yu (o2:xm (bC rows mv.length) inv mv.length) (hi:qB inv mv.length) (hr:qB rows mv.length) (D:dr mv pt lk) (wp:∀xs∈pus,xs.length=pt.length):∀k,k<=pus.length->IS (mR (k6 inv mv rows mv.length) (mI inv pt) (List.replicate mv.length 0) pus k) rows mv.length=mR mv pt (List.replicate mv.length 0) pus k
 | 0,_=>by
  rw[qX,qX];refine EV (n:=mv.length) DU bw λi h=>?_
  rw[FJ h,cC λk hk=>by rw[aa,dq,if_pos hk];exact dw _,aa,dq,if_pos h];rfl
 | k+1,hk=>by
  have e:pus[k]?=some pus[k]:=af (by lia);have lM:=fA (mv:=mv) (rows:=rows) hi;rw[ke e,ke e,<- yu o2 hi hr D wp k (by lia)];exact L7 o2 hi hr D rfl (qd D hi hr) (by rw[kM (by rw[lM];exact bw) (by lia),lM]) (wp _ (aE _))
theorem L6 (o1:xm inv (bC rows mv.length) mv.length) (o2:xm (bC rows mv.length) inv mv.length) (hi:qB inv mv.length) (hr:qB rows mv.length) (D:dr mv pt lk) (wp:∀xs∈pus,xs.length=pt.length) (hk:k<=pus.length) (hi':i < mv.length):(mR (k6 inv mv rows mv.length) (mI inv pt) (List.replicate mv.length 0) pus k).getD i 0=be mv.length λa=>br inv i a*(mR mv pt (List.replicate mv.length 0) pus k).getD a 0:=by
 have lM:=fA (mv:=mv) (rows:=rows) hi;rw[<- yu o2 hi hr D wp k hk];exact (PC o1 hi' (by rw[kM (by rw[lM];exact bw) hk,lM])).symm
theorem Py (D:dr mv pt lk) (RR:aO rows0 mv.length R ps) (wp:∀xs∈pus,xs.length=pt.length) (hk:k<=pus.length) (hi:i < ps.length):(mR (k6 (stC R ps mv.length) mv (kK R ps mv.length) mv.length) (mI (stC R ps mv.length) pt) (List.replicate mv.length 0) pus k).getD i 0=(mR mv pt (List.replicate mv.length 0) pus k).getD (ps.getD i 0) 0:=by
 have le:=RR.le;have lo:=RR.2.2.low i hi;rw[L6 (KZ RR) (Iz RR) (jS RR) (oY RR) D wp hk (by lia),cV lo λa ha ne=>by rw[vm hi ha,if_neg ne,dw],vm hi lo,if_pos rfl,fL]
theorem Pz (wm:∀xs∈mv,xs.length=mv.length) (RR:aO rows0 mv.length R ps) (hi:i < ps.length) (hj:j < ps.length):br (k6 (stC R ps mv.length) mv (kK R ps mv.length) mv.length) i j=be mv.length λc=>br mv (ps.getD i 0) c*br R j c:=by
 have le:=RR.le;have lo:=RR.2.2.low i hi;rw[A7 (jS RR) ⟨rfl,wm⟩ (by lia) (by lia)];refine aA λc hc=>?_
 rw[Ct RR hj,cV lo λa ha ne=>by rw[vm hi ha,if_neg ne,dw],vm hi lo,if_pos rfl,fL]
theorem PJ (wm:∀xs∈mv,xs.length=mv.length) (RN:aO rows0 mv.length U pu) (hi:i < (di pu mv.length).length) (hj:j < (di pu mv.length).length):br (k6 (vo U pu mv.length) mv (qC U pu mv.length) mv.length) i j=be mv.length λa=>(so U pu mv.length ((di pu mv.length).getD i 0)).getD a 0*br mv a ((di pu mv.length).getD j 0):=by
 have cn:=kL RN;have lo:=(CU hj).1;rw[A7 (kN RN) ⟨rfl,wm⟩ (by lia) (by lia),cV lo λc hc ne=>by rw[IT RN hj,Cs RN hj hc,if_neg ne,cL],IT RN hj,Cs RN hj lo,if_pos rfl,qO];exact aA λa ha=>by rw[CJ hi,yG hi]
theorem PH (D:dr mv pt lk) (RN:aO rows0 mv.length U pu) (wp:∀xs∈pus,xs.length=pt.length) (hk:k<=pus.length) (hi:i < (di pu mv.length).length):(mR (k6 (vo U pu mv.length) mv (qC U pu mv.length) mv.length) (mI (vo U pu mv.length) pt) (List.replicate mv.length 0) pus k).getD i 0=be mv.length λa=>(so U pu mv.length ((di pu mv.length).getD i 0)).getD a 0*(mR mv pt (List.replicate mv.length 0) pus k).getD a 0:=by
 have cn:=kL RN;rw[L6 (OM RN) (K8 RN) (kN RN) (vp RN) D wp hk (by lia)];exact aA λa ha=>by rw[CJ hi,yG hi]
end
section
variable {mv pt lk R U:LR9} {ps pu:List Nat} {M1 M2 V a1 a2 c q E m:Nat}
theorem sR (hx:xs∈dB m rows) (hy:y∈xs):∃i j,i < rows.length/\j < m/\y=br rows i j:=by
 obtain ⟨ys,hz,rfl⟩:=aw.mp hx;obtain ⟨i,hi,rfl⟩:=aK hz;obtain ⟨j,hj,rfl⟩:=aK hy;have hj':=hj;rw[aR] at hj';exact ⟨i,j,hi,by lia,by rw[gE (af hi),xr,aa,af (by lia)];rfl⟩
theorem BR.st_lines (z:BR mv pt lk R M1 M2 V a1 a2 c q E) (D:dr mv pt lk) (RR:aO rows0 mv.length R ps) (hl:∀y∈l,(∃xs∈dB ps.length ((k6 (stC R ps mv.length) mv (kK R ps mv.length) mv.length).take ps.length),y∈xs)\/(∃xs∈dB ps.length (mI (stC R ps mv.length) pt),y∈xs)\/y=0):lE (a1+E+a2) (c+E) l:=by
 have le:=RR.le;have gR:GF q (2^E) R:=λxs hx x hx'=>(z.rt xs hx x hx').fr z.q0
 have vE:mv.length*(V*2^E)<=2^(c+E):=by
  rw[<- b8,bg];exact ay _ (ai (ay _ (fO _ 4)) z.B.vc)
 refine ⟨M1*q*M2,2^(c+E),bQ (bQ z.B.m1 z.q0) z.B.m2,vd (vd z.B.b1 z.q1 (aj _)) z.B.b2 (aj _),aj _,λy hy=>?_⟩;rcases hl y hy with ⟨xs,h1,h2⟩ | ⟨xs,h1,h2⟩ | rfl
 ·obtain ⟨i,j,hi,hj,rfl⟩:=sR h1 h2;rw[aR] at hi;rw[DO (by lia),Pz D.mw RR (by lia) hj];exact ((vg (M:=M1*q) (V:=V*2^E) mv.length λc _=>(Bc z.B.gm).mul (Bc gR)).mono vE).dvd (JP _ _)
 ·obtain ⟨i,j,hi,hj,rfl⟩:=sR h1 h2;unfold mI at hi;rw[ag] at hi;have lo:=RR.2.2.low j hj;rw[HY (jS RR) D.pw hi (by lia),cV lo λa ha ne=>by rw[vm hj ha,if_neg ne,dw],vm hj lo,if_pos rfl,fL];exact ((Bc z.B.gp).mono (ai z.B.v1 (ao (by decide) (by lia)))).dvd (dO _ _)
 ·exact Fr.zero
end
structure Oo (mv pt lk rows inv pus:LR9) (m w:Nat):Prop where
 hR:qB rows mv.length
 sw:zF (nZ (bC rows mv.length) (cW mv.length)) (mv.length+mv.length) w
 iv:∀R ps,aO (nZ (bC rows mv.length) (cW mv.length)) (mv.length+mv.length) R ps->ps=List.range mv.length/\R.map (λxs=>xs.drop mv.length)=inv
 hi:qB inv mv.length
 F:Pa mv pt lk rows inv
 mn:m<=mv.length
 nx:∀k pu,pus[k]?=some pu->Ot (dB m ((k6 inv mv rows mv.length).take m)) (dB m (mI inv pt)) (mR (dB m ((k6 inv mv rows mv.length).take m)) (dB m (mI inv pt)) (List.replicate m 0) pus k) pu
 lf:∀k,k<=pus.length->∀ys∈dB m (lk.map λxs=>rows.map λr=>cS r xs),qQ ys (mR (dB m ((k6 inv mv rows mv.length).take m)) (dB m (mI inv pt)) (List.replicate m 0) pus k)
 lo:MK (dB m ((k6 inv mv rows mv.length).take m)) (dB m (mI inv pt)) (dB m (lk.map λxs=>rows.map λr=>cS r xs)) pus pus.length=MK mv pt lk pus pus.length
def S7 (mv pt pus:LR9) (e:Nat):Prop:=∀k,k<=pus.length->∃N ν W:Nat,0 < N/\N<=2^ν/\ν+W<=e/\∀x,x∈mR mv pt (List.replicate mv.length 0) pus k\/(∃pu∈pus,x∈pu)->Fr N (2^W) x
section
variable {mv pt lk R U pus rows inv:LR9} {ps pu:List Nat} {M1 M2 V a1 a2 c q E m e w T b Np:Nat}
theorem GA (hi:qB inv mv.length) (h:m<=mv.length):(dB m ((k6 inv mv rows mv.length).take m)).length=m:=by
 unfold dB;rw[ag,aR,fA hi]
 lia
theorem Gu {xs:List Rat} (h:xs.drop m=List.replicate n 0) (h1:m<=j):xs.getD j 0=0:=by
 rw[aa,show xs[j]?=(xs.drop m)[j - m]? by rw[List.getElem?_drop,show m+(j - m)=j by lia],h,dq]
 split <;> rfl
theorem Qv {xs:List Rat} (h:x∈xs):∃i,i < xs.length/\x=xs.getD i 0:=by
 obtain ⟨i,hi,rfl⟩:=aK h;exact ⟨i,hi,by rw[aa,af hi];rfl⟩
theorem Mf {xs:List Rat}:xs.getD i 0∈xs\/xs.getD i 0=0:=by
 rw[aa];cases h:xs[i]? with
 | none=>exact .inr rfl
 | some z=>exact .inl (ar h)
theorem IW (D:dr mv pt lk) (hR:qB rows mv.length) (hi:qB inv mv.length) (sw:zF (nZ (bC rows mv.length) (cW mv.length)) (mv.length+mv.length) w) (iv:∀R ps,aO (nZ (bC rows mv.length) (cW mv.length)) (mv.length+mv.length) R ps->ps=List.range mv.length/\R.map (λxs=>xs.drop mv.length)=inv) (F:Pa mv pt lk rows inv) (mn:m<=mv.length) (o2:xm (bC rows mv.length) inv mv.length) (wp:∀xs∈pus,xs.length=pt.length)
  (hz:∀k,k<=pus.length->∀i,i < m->∀j,m<=j->j < mv.length->br (k6 inv mv rows mv.length) i j*(mR (k6 inv mv rows mv.length) (mI inv pt) (List.replicate mv.length 0) pus k).getD j 0=0)
  (hy:∀k,k<=pus.length->∀ys∈lk.map (λxs=>rows.map λr=>cS r xs),∀j,m<=j->j < mv.length->ys.getD j 0*(mR (k6 inv mv rows mv.length) (mI inv pt) (List.replicate mv.length 0) pus k).getD j 0=0)
  (ln:∀l:List Rat,(∀y∈l,(∃xs∈dB m ((k6 inv mv rows mv.length).take m),y∈xs)\/(∃xs∈dB m (mI inv pt),y∈xs)\/y=0)->lE k1 j1 l)
  (ll:∀xs∈dB m (lk.map λxs=>rows.map λr=>cS r xs),lE k3 j3 xs)
  (ss:∀k,k<=pus.length->∃k2 j2,(k1+k2)+(j1+j2)+4<=3930/\(k3+k2)+(j3+j2)<=3930/\∀l:List Rat,(∀x∈l,(∃i,i < m/\x=(mR (k6 inv mv rows mv.length) (mI inv pt) (List.replicate mv.length 0) pus k).getD i 0)\/∃pu∈pus,x∈pu)->lE k2 j2 l):Oo mv pt lk rows inv pus m w:=by
 have lM:=fA (mv:=mv) (rows:=rows) hi;have D':=qd D hi hR;have lP:(mI inv pt).length=pt.length:=ag ..;have wp':∀xs∈pus,xs.length=(mI inv pt).length:=λxs hx=>by rw[lP];exact wp xs hx
 have C:=Br D' (m:=m) (pus:=pus) (by lia) wp' (by rw[lM];exact hz);rw[lM] at C
 have lS:∀k,k<=pus.length->(mR (k6 inv mv rows mv.length) (mI inv pt) (List.replicate mv.length 0) pus k).length=mv.length:=λk hk=>by
  rw[kM (by rw[lM];exact bw) hk,lM]
 have inS:∀k,k<=pus.length->∀x∈(mR (k6 inv mv rows mv.length) (mI inv pt) (List.replicate mv.length 0) pus k).take m,∃i,i < m/\x=(mR (k6 inv mv rows mv.length) (mI inv pt) (List.replicate mv.length 0) pus k).getD i 0:=λk hk x hx=>by
  obtain ⟨i,h1,rfl⟩:=Qv hx;rw[aR] at h1;exact ⟨i,by lia,oV (by lia)⟩
 refine ⟨hR,sw,iv,hi,F,mn,λk pu hpu=>?_,λk hk ys hys=>?_,?_⟩
 ·have hk:=(aF.mp hpu).1;obtain ⟨k2,j2,sz,_,f⟩:=ss k (by lia);rw[C k (by lia)]
  exact Qt (sQ D' (by lia)) ln (f _ λx hx=>by
   rcases az.mp hx with hx | hx
   ·exact .inl (inS k (by lia) x hx)
   ·exact .inr ⟨pu,ar hpu,hx⟩) sz
 ·obtain ⟨k2,j2,_,sz,f⟩:=ss k hk;rw[C k hk];exact ⟨_,_,_,_,ll ys hys,f _ λx hx=>.inl (inS k hk x hx),sz⟩
 ·unfold MK;refine sZ λk hk=>?_
  have hk:=nB.mp hk;rw[GA hi mn,C (k+1) (by lia),<- yu o2 hi hR D wp (k+1) (by lia)];unfold dB;rw[fD,fD];refine sZ λxs hx=>?_
  have e:=Of (m:=m) (xs:=rows.map λr=>cS r xs) (n:=mv.length) (by rw[ag,hR.1]) (lS (k+1) (by lia)) mn (hy (k+1) (by lia) _ (aw.mpr ⟨xs,hx,rfl⟩));refine Eq.trans e ?_;exact N5 hR (D.lw xs hx) (lS (k+1) (by lia))
theorem LG (z:BR mv pt lk U M1 M2 V a1 a2 c q E) (RN:aO rows0 mv.length U pu):Fr q (2^E) ((so U pu mv.length t).getD a 0):=by
 rcases Mf (xs:=so U pu mv.length t) (i:=a) with h | h
 ·exact (LD z.q0 z.q1 z.rt RN _ h).fr z.q0
 ·rw[h];exact Fr.zero
theorem OL (h:∀x,x∈mR mv pt (List.replicate mv.length 0) pus k\/(∃pu∈pus,x∈pu)->Fr N (2^W) x):Fr N (2^W) ((mR mv pt (List.replicate mv.length 0) pus k).getD i 0):=by
 rcases Mf (xs:=mR mv pt (List.replicate mv.length 0) pus k) (i:=i) with z | z
 ·exact h _ (.inl z)
 ·rw[z];exact Fr.zero
theorem BR.vE (z:BR mv pt lk U M1 M2 V a1 a2 c q E):mv.length*(V*2^E)<=2^(c+E):=by
 rw[<- b8,bg];exact ay _ (ai (ay _ (fO _ 4)) z.B.vc)
theorem BR.sf_lines (z:BR mv pt lk U M1 M2 V a1 a2 c q E) (D:dr mv pt lk) (RN:aO rows0 mv.length U pu) (hl:∀y∈l,(∃xs∈dB (di pu mv.length).length ((k6 (vo U pu mv.length) mv (qC U pu mv.length) mv.length).take (di pu mv.length).length),y∈xs)\/(∃xs∈dB (di pu mv.length).length (mI (vo U pu mv.length) pt),y∈xs)\/y=0):lE (a1+E+a2) (c+E) l:=by
 have cn:=kL RN;have vE:=z.vE;refine ⟨M1*q*M2,2^(c+E),bQ (bQ z.B.m1 z.q0) z.B.m2,vd (vd z.B.b1 z.q1 (aj _)) z.B.b2 (aj _),aj _,λy hy=>?_⟩;rcases hl y hy with ⟨xs,h1,h2⟩ | ⟨xs,h1,h2⟩ | rfl
 ·obtain ⟨i,j,hi,hj,rfl⟩:=sR h1 h2;rw[aR] at hi;rw[DO (by lia),PJ D.mw RN (by lia) hj];refine ((vg (M:=M1*q) (V:=V*2^E) mv.length λa _=>?_).mono vE).dvd (JP _ _);rw[b6];exact (Bc z.B.gm).mul (LG z RN)
 ·obtain ⟨i,j,hi,hj,rfl⟩:=sR h1 h2;unfold mI at hi;rw[ag] at hi;rw[HY (kN RN) D.pw hi (by lia)];refine ((vg (M:=q*M2) (V:=V*2^E) mv.length λa _=>?_).mono vE).dvd (by rw[b8];exact dO _ _);rw[CJ hj,yG hj];have:=(LG z RN (t:=(di pu mv.length).getD j 0) (a:=a)).mul (Bc z.B.gp (i:=i) (j:=a));rwa [cw (2^E)] at this
 ·exact Fr.zero
theorem NL (z:BR mv pt lk R M1 M2 V a1 a2 c q E) (D:dr mv pt lk) (RR:aO (kry mv pt mv.length) mv.length R ps) (RB:aO (pt++R.map (ow mv)) mv.length R ps) (S:S7 mv pt pus e) (wp:∀xs∈pus,xs.length=pt.length) (sz:4*E+a1+a2+c+e+7<=3930) (e1:e<=1500) (E9:E<=928):Oo mv pt lk (kK R ps mv.length) (stC R ps mv.length) pus ps.length E:=by
 have n8:=D.n8;have hB:=oY RR;have hC:=jS RR;have lM:=fA (mv:=mv) (rows:=kK R ps mv.length) hC;have bh:=Cr (qd D hC hB) (m:=ps.length) (pus:=pus) (by rw[lM];exact RR.le) (λxs hx=>by unfold mI;rw[ag];exact wp xs hx) (M8 D.mw RR RB) (by rw[lM];exact M7 D.pw RR RB);rw[lM] at bh;obtain ⟨M3,V3,l0,l1,l2,lg⟩:=z.lf;have gb:GF q (2^E) (kK R ps mv.length):=λxs hx x hx'=>(z.tb xs hx x hx').fr z.q0
 have iL:GF (q*M3) (2^(3+(E+120))) (lk.map λxs=>(kK R ps mv.length).map λr=>cS r xs):=lh (Gj gb lg hB.2) (vd (i:=3) (by lia) (vd (aj _) l2 (aj _)) (aj _));refine IW (k1:=a1+E+a2) (j1:=c+E) (k3:=E+400) (j3:=3+(E+120)) D hB hC (z.sw n8 RR) (λR9 ps9 h9=>K2 RR h9) (z.fit n8 RR) RR.le (Iz RR) wp (λk hk i hi j h1 h2=>by rw[bh k hk j h1 h2,cL]) (λk hk ys hy j h1 h2=>by rw[bh k hk j h1 h2,cL]) (λl hl=>z.st_lines D RR hl) (λxs hx=>?_) λk hk=>?_
 ·obtain ⟨ys,hy,rfl⟩:=aw.mp hx;exact ⟨_,_,bQ z.q0 l0,vd z.q1 l1 (aj _),aj _,λx hx'=>iL ys hy x (bG hx')⟩
 ·obtain ⟨N,ν,W,N0,N1,sW,f⟩:=S k hk;refine ⟨ν,W,by lia,by lia,λl hl=>⟨N,2^W,N0,N1,aj _,λx hx=>?_⟩⟩;rcases hl x hx with ⟨i,hi,rfl⟩ | h
  ·rw[Py D RR wp hk hi];exact OL f
  ·exact f x (.inr h)
theorem NM (z:BR mv pt lk U M1 M2 V a1 a2 c q E) (D:dr mv pt lk) (RR:aO (kry (bC mv mv.length) lk mv.length) mv.length R ps) (RB:aO (lk++R.map (ow (bC mv mv.length))) mv.length R ps) (RN:aO (bA R ps mv.length) mv.length U pu) (S:S7 mv pt pus e) (wp:∀xs∈pus,xs.length=pt.length) (sz:4*E+a1+a2+c+e+7<=3930) (e1:e<=1500) (E9:E<=928):Oo mv pt lk (qC U pu mv.length) (vo U pu mv.length) pus (di pu mv.length).length E:=by
 have n8:=D.n8;have hB:=vp RN;have hC:=kN RN;have cn:=kL RN;have lM:=fA (mv:=mv) (rows:=qC U pu mv.length) hC;have lM':=fA (mv:=mv) (rows:=qC U pu mv.length) hC;have tb:∀xs∈qC U pu mv.length,∀x∈xs,Tp q (2^E) x:=λxs hx=>z.tb xs (DY.mp hx)
 obtain ⟨FT,SW⟩:=SG z n8 hB hC tb λxs hx=>z.tc RN xs (DX.mp hx)
 obtain ⟨M3,V3,l0,l1,l2,lg⟩:=z.lf;refine IW (k1:=a1+E+a2) (j1:=c+E) (k3:=400) (j3:=120) D hB hC SW (λR9 ps9 h9=>K9 RN h9) FT (by lia) (K8 RN) wp (λk hk i hi j h1 h2=>?_) (λk hk ys hy j h1 h2=>?_) (λl hl=>z.sf_lines D RN hl) (λxs hx=>?_) λk hk=>?_
 ·have hm:(k6 (vo U pu mv.length) mv (qC U pu mv.length) mv.length)[i]'(by lia)∈(k6 (vo U pu mv.length) mv (qC U pu mv.length) mv.length).take (di pu mv.length).length:=by
   rw[List.mem_iff_getElem];exact ⟨i,by rw[aR];lia,by rw[xr]⟩
  rw[gE (af (by lia)),Gu (Nf D.mw RR RB RN _ hm) h1,dw]
 ·rw[Gu (Ng D.lw RB RN ys hy) h1,dw]
 ·refine ⟨M3,V3,l0,l1,l2,λx hx'=>?_⟩;obtain ⟨i,j,hi,hj,rfl⟩:=sR hx hx';rw[ag] at hi;have lo:=(CU hj).1
  have ej:(qC U pu mv.length)[j]?=some (kq mv.length (((di pu mv.length).getD j 0:Nat):Int)):=by
   unfold qC;rw[cx (by rw[ag];exact hj),aD,af hj,aa,af hj];rfl
  rw[sI (af hi),EG ej,dm (by rw[zV,D.lw _ (aE hi)]),zV,cV lo λc hc ne=>by rw[DJ hc,if_neg ne,dw],DJ lo,if_pos rfl,fL];rcases Mf (xs:=lk[i]) (i:=(di pu mv.length).getD j 0) with h | h
  ·exact lg _ (aE hi) _ h
  ·rw[h];exact Fr.zero
 ·obtain ⟨N,ν,W,N0,N1,sW,f⟩:=S k hk;refine ⟨E+ν,3+(E+W),by lia,by lia,λl hl=>⟨q*N,2^(3+(E+W)),bQ z.q0 N0,vd z.q1 N1 (aj _),aj _,λx hx=>?_⟩⟩;rcases hl x hx with ⟨i,hi,rfl⟩ | h
  ·rw[PH D RN wp hk hi];exact (vg (M:=q*N) (V:=2^E*2^W) mv.length λa _=>(LG z RN).mul (OL f)).mono (vd (i:=3) (by lia) (by rw[<- bg];exact aj _) (aj _))
  ·exact ((f x (.inr h)).dvd (dO _ _)).mono (ao (by decide) (by lia))
theorem Ay (B:Bd mv pt M1 M2 V a1 a2 c) (D:dr mv pt lk) (wp:∀xs∈pus,xs.length=pt.length) (p0:0 < Np) (p1:Np<=2^b) (hu:∀xs∈pus,∀x∈xs,Fr Np (2^22) x) (hT:pus.length<=T) (sz:a1*(T+1)+(a2+b)+c*(T+1)+22<=1500):S7 mv pt pus (a1*T+(a2+b)+c*T+22)/\∀k pu,pus[k]?=some pu->Ot mv pt (mR mv pt (List.replicate mv.length 0) pus k) pu:=by
 have t1:a1*(pus.length+1)<=a1*(T+1):=aY _ (by lia);have t2:c*(pus.length+1)<=c*(T+1):=aY _ (by lia);have t3:c<=c*(T+1):=dn _ (by lia);have N0:0 < M2*Np:=bQ B.m2 p0;have N1:M2*Np<=2^(a2+b):=vd B.b2 p1 (aj _);have X:=B.states D (st:=List.replicate mv.length 0) (pus:=pus) (p:=22) bw wp N0 N1 (Nat.dvd_refl _) (λx hx=>by rw[List.eq_of_mem_replicate hx];exact Fr.zero) hu (by lia) (by lia);refine ⟨λk hk=>⟨M1^k*(M2*Np),a1*k+(a2+b),c*k+22,bQ (mL B.m1) N0,rS B.b1 N1,?_,λx hx=>?_⟩,λk pu hpu=>(X k (aT (aF.mp hpu).1)).2 pu hpu⟩
 ·have:=aY a1 (show k<=T by lia);have:=aY c (show k<=T by lia)
  lia
 ·rcases hx with hx | ⟨xs,h1,h2⟩
  ·exact (X k hk).1 x hx
  ·exact ((hu xs h1 x h2).dvd (xv (dO _ _) (dO _ _))).mono (ao (by decide) (by lia))
structure SU (mv pt pus:LR9) (w M1 M2 V a1 a2 c e:Nat):Prop where
 B:Bd mv pt M1 M2 V a1 a2 c
 S:S7 mv pt pus e
 nx:∀k pu,pus[k]?=some pu->Ot mv pt (mR mv pt (List.replicate mv.length 0) pus k) pu
 e0:30<=e
 e1:e<=1500
 sz:∀E,E<=928->(mv.length<=5->E<=720)->(9 < w->E<=620)->4*E+a1+a2+c+e+7<=3930
theorem QQ (h:Rg mv pt w) (D:dr mv pt lk) (ST:StP mv pt T) (lp:pus.length=2+T) (wp:∀xs∈pus,xs.length=pt.length/\∀x∈xs,Dr (max w 6) x):∃M1 M2 V a1 a2 c e,SU mv pt pus w M1 M2 V a1 a2 c e:=by
 have i4:=D.i4;have T12:=ST.1;have wp':∀xs∈pus,xs.length=pt.length:=λxs hx=>(wp xs hx).1
 have small:w<=9->∀xs∈pus,∀x∈xs,Fr 2520 (2^22) x:=λw9 xs hx x hx'=>(Mu ⟨ai ((wp xs hx).2 x hx').1 (by lia),ai ((wp xs hx).2 x hx').2 (by lia)⟩ (Nat.dvd_refl _)).mono (by decide)
 rcases h with ⟨w9,X⟩ | ⟨w9,n5,X⟩ | ⟨w9,n2,M1,M2,X⟩
 ·by_cases n5:mv.length<=5
  ·obtain ⟨S,nx⟩:=Ay (T:=14) (b:=12) X D wp' (by decide) (by decide) (small w9) (by lia) (by decide);exact ⟨_,_,_,_,_,_,_,X,S,nx,by decide,by decide,λE h1 h2 h3=>by have:=h2 n5;lia⟩
  ·have T8:T<=8:=by
    have:=D.n8;rcases ST.2 with h | h
    ·lia
    ·have:=h.2.1 (by lia)
     lia
   obtain ⟨S,nx⟩:=Ay (T:=10) (b:=12) X D wp' (by decide) (by decide) (small w9) (by lia) (by decide);exact ⟨_,_,_,_,_,_,_,X,S,nx,by decide,by decide,λE h1 h2 h3=>by lia⟩
 ·obtain ⟨S,nx⟩:=Ay (T:=14) (b:=12) X D wp' (by decide) (by decide) (small w9) (by lia) (by decide);exact ⟨_,_,_,_,_,_,_,X,S,nx,by decide,by decide,λE h1 h2 h3=>by have:=h2 n5;lia⟩
 ·obtain ⟨B,b0,b1,b2⟩:=Kr (c:=10) (l:=pus.flatten) (λx hx=>by
   obtain ⟨xs,h1,h2⟩:=zI.mp hx;have:=(wp xs h1).2 x h2;exact ⟨ai this.1 (by rw[w9];decide),ai this.2 (by rw[w9];decide)⟩) (by decide)
  rw[Gn wp',lp] at b1;have hu:∀xs∈pus,∀x∈xs,Fr B (2^22) x:=λxs h1 x h2=>b2 x (zI.mpr ⟨xs,h1,h2⟩)
  by_cases T3:T<=3
  ·have m:(2+T)*pt.length<=5*4:=aJ (by lia) i4;obtain ⟨S,nx⟩:=Ay (T:=5) (b:=202) X D wp' b0 (ai b1 (ao (by decide) (by lia))) hu (by lia) (by decide);exact ⟨_,_,_,_,_,_,_,X,S,nx,by decide,by decide,λE h1 h2 h3=>by have:=h3 (by lia);lia⟩
  ·obtain ⟨_,z | ⟨hd,_⟩⟩:=ST
   ·exact absurd z T3
   have m:(2+T)*pt.length<=14*4:=aJ (by lia) i4
   have gf:∀l:LR9,(∀xs∈l,xs∈mv++pt)->GF 2520 1000 l:=λl hl xs hx x hx'=>by
    have:=hd xs (hl xs hx) x hx';exact (Fr.own x (aT this.2)).dvd (Jt this.1)
   have X2:Bd mv pt 2520 2520 1000 12 12 13:=⟨by decide,by decide,by decide,by decide,gf mv λxs hx=>az.mpr (.inl hx),gf pt λxs hx=>az.mpr (.inr hx),ai (ay _ (show mv.length+4<=6 by lia)) (by decide)⟩;obtain ⟨S,nx⟩:=Ay (T:=14) (b:=562) X2 D wp' b0 (ai b1 (ao (by decide) (by lia))) hu (by lia) (by decide);exact ⟨_,_,_,_,_,_,_,X2,S,nx,by decide,by decide,λE h1 h2 h3=>by have:=h3 (by lia);lia⟩
def Tw (n w:Nat) (U:LR9) (q E:Nat):Prop:=0 < q/\q<=2^E/\E<=928/\(n<=5->E<=720)/\(9 < w->E<=620)/\∀xs∈U,∀x∈xs,Tp q (2^E) x
theorem Qk (h:Rg mv pt w) (D:dr mv pt lk) (F:JJ mv pt lk) (RR:aO (kry mv pt mv.length) mv.length R ps):∃q E,Tw mv.length w R q E:=by
 rcases h with ⟨_,B⟩ | ⟨_,n5,B⟩ | ⟨_,n2,M1,M2,B⟩
 ·by_cases n5:mv.length<=5
  ·obtain ⟨q,z⟩:=oT (N:=5) (w:=70) (E:=370) B D F n5 (by decide) (by decide) (by decide) (by decide) (by decide) (by decide) (by decide) RR;exact ⟨q,_,z.q0,z.q1,by decide,by lia,by lia,z.rt⟩
  ·obtain ⟨q,z⟩:=oT (N:=8) (w:=112) (E:=928) B D F D.n8 (by decide) (by decide) (by decide) (by decide) (by decide) (by decide) (by decide) RR;exact ⟨q,_,z.q0,z.q1,by decide,by lia,by lia,z.rt⟩
 ·obtain ⟨q,z⟩:=oT (N:=5) (w:=140) (E:=720) B D F n5 (by decide) (by decide) (by decide) (by decide) (by decide) (by decide) (by decide) RR;exact ⟨q,_,z.q0,z.q1,by decide,by lia,by lia,z.rt⟩
 ·obtain ⟨q,z⟩:=oT (N:=2) (w:=306) (E:=620) B D F n2 (by decide) (by decide) (by decide) (by decide) (by decide) (by decide) (by decide) RR;exact ⟨q,_,z.q0,z.q1,by decide,by lia,by lia,z.rt⟩
theorem Pj (h:Rg A lk w) (D:dr A lk pk) (RR:aO (kry A lk A.length) A.length R ps) (RN:aO (bA R ps A.length) A.length U pu):∃q E,Tw A.length w U q E:=by
 rcases h with ⟨w9,B⟩ | ⟨w9,n5,B⟩ | ⟨w9,n2,M1,M2,B⟩
 ·by_cases n5:A.length<=5
  ·obtain ⟨q,a,b,t⟩:=oU (N:=5) (w:=70) (E:=370) B D n5 (by decide) (by decide) (by decide) (by decide) (by decide) RR RN;exact ⟨q,_,a,b,by decide,by lia,by lia,t⟩
  ·obtain ⟨q,a,b,t⟩:=oU (N:=8) (w:=112) (E:=928) B D D.n8 (by decide) (by decide) (by decide) (by decide) (by decide) RR RN;exact ⟨q,_,a,b,by decide,by lia,by lia,t⟩
 ·obtain ⟨q,a,b,t⟩:=oU (N:=5) (w:=140) (E:=720) B D n5 (by decide) (by decide) (by decide) (by decide) (by decide) RR RN;exact ⟨q,_,a,b,by decide,by lia,by lia,t⟩
 ·obtain ⟨q,a,b,t⟩:=oU (N:=2) (w:=306) (E:=620) B D n2 (by decide) (by decide) (by decide) (by decide) (by decide) RR RN;exact ⟨q,_,a,b,by decide,by lia,by lia,t⟩
theorem SU.z (d:SU mv pt pus w M1 M2 V a1 a2 c e) (n8:mv.length<=8) (F:JJ mv pt lk) (h:Tw mv.length w U q E):BR mv pt lk U M1 M2 V a1 a2 c q E/\4*E+a1+a2+c+e+7<=3930:=by
 obtain ⟨q0,q1,E1,E2,E3,t⟩:=h;have s:=d.sz E E1 E2 E3;have e0:=d.e0;have e2:mv.length*(E+4)<=8900:=ai (aJ n8 (show E+4<=932 by lia)) (by decide);exact ⟨⟨d.B,q0,q1,t,by lia,by lia,e2,let ⟨M,W,a,b,c,_,_,d⟩:=F;⟨M,W,a,b,c,d⟩⟩,s⟩
theorem SU.lf (d:SU mv pt pus w M1 M2 V a1 a2 c e) (F:JJ mv pt lk) (hk:k<=pus.length):∀ys∈lk,qQ ys (mR mv pt (List.replicate mv.length 0) pus k):=λys hy=>by
 obtain ⟨M,W,m0,m1,w1,_,_,g⟩:=F;obtain ⟨N,ν,W',N0,N1,sW,f⟩:=d.S k hk;have:=d.e1;exact ⟨400,120,ν,W',⟨M,W,m0,m1,w1,g ys hy⟩,⟨N,_,N0,N1,aj _,λx hx=>f x (.inl hx)⟩,by lia⟩
end
end L2
open L2
local macro_rules | `(tactic| walk_at "hl") => `(tactic| first | (show _ ≤ sizeLine; with_unfolding_all decide) | (with_unfolding_all exact (by decide)))
local macro_rules | `(tactic| walk_at "sq") => `(tactic| first | with_reducible assumption | with_reducible exact mP.of (by assumption) | with_reducible exact bU.of (by assumption) | with_reducible exact mP.of aM | with_reducible exact bU.of aM | assumption)
local macro_rules | `(tactic| walk_at "sc") => `(tactic| first | (with_reducible show (0 : Int) < _; decide) | with_reducible exact Og (by decide) (by decide) | with_reducible exact JB (by decide) (by decide) | with_reducible exact cpow_of (by decide) (by decide) (by decide))
local macro_rules | `(tactic| walk_at "rd") => `(tactic| first
  | with_reducible refine PN ?_
  | with_reducible refine Nt ?_
  | with_reducible refine Qd ?_
  | with_reducible refine Lo ?_
  | ((with_reducible refine' PL ?hx1 ?_); (case hx1 => with_unfolding_all rfl))
  | with_reducible refine Te ?_
  | with_reducible refine Sd ?_
  | with_reducible refine Sg ?_
  | with_reducible refine R5 ?_
  | with_reducible refine Tf ?_
  | with_reducible refine Qc ?_
  | with_reducible refine PY ?_
  | with_reducible refine rd_eqS ?_
  | with_reducible refine rd_neS ?_
  | with_reducible refine rd_eqB ?_
  | with_reducible refine rd_neB ?_
  | with_reducible refine Nw ?_
  | with_reducible refine HH ?_
  | with_reducible refine P9 ?_
  | with_reducible refine Nn ?_
  | with_reducible refine Nu ?_
  | with_reducible refine Nv ?_
  | with_reducible refine Ln ?_
  | with_reducible refine Nl ?_
  | with_reducible refine R6 ?_
  | with_reducible refine PR ?_
  | with_reducible refine rd_retN ?_
  | with_reducible refine P6 ?_
  | with_reducible refine Qf ?_
  | with_reducible refine Sb ?_
  | with_reducible refine PV ?_
  | with_reducible refine NI ?_
  | with_reducible refine rd_orV ?_
  | with_reducible refine Nr ?_
  | with_reducible refine P7 ?_
  | with_reducible refine PK ?_
  | with_reducible refine N4 ?_
  | with_reducible refine Sr ?_
  | with_reducible refine Ss ?_
  | with_reducible refine Su ?_
  | with_reducible refine OP ?_
  | with_reducible refine PX ?_
  | with_reducible refine ND ?_
  | with_reducible refine PM ?_
  | with_reducible refine PZ ?_
  | with_reducible refine NG ?_
  | with_reducible refine Se ?_
  | with_reducible refine NC ?_
  | with_reducible refine PU ?_
  | with_reducible refine NH ?_
  | ((with_reducible refine' rd_aug ?hx1 ?_); (case hx1 => with_unfolding_all rfl))
  | with_reducible refine P0 ?_
  | with_reducible refine Nz ?_
  | with_reducible refine Lp ?_
  | with_reducible refine NA ?_
  | with_reducible refine Sa ?_
  | with_reducible refine J7 ?_
  | with_reducible refine Nq ?_
  | with_reducible refine P8 ?_
  | with_reducible refine Lm ?_
  | with_reducible refine Nx ?_
  | with_reducible refine Ll ?_
  | with_reducible refine Lk ?_
  | ((with_reducible refine' NF ?hx1 ?_); (case hx1 => with_unfolding_all rfl))
  | with_reducible refine Nk ?_
  | with_reducible refine Sf ?_
  | with_reducible refine rd_bm0 ?_
  | with_reducible refine rd_brk ?_
  | ((with_reducible refine' Ny ?hx1 ?hx2 ?_); (case hx1 => walk_at "sq"); (case hx2 => with_unfolding_all rfl))
  | with_reducible refine rd_cont ?_
  | ((with_reducible refine' fF ?hx1 ?_); (case hx1 => walk_at "sc"))
  | ((with_reducible refine' HI ?hx1 ?hx2 ?_); (case hx1 => walk_at "sq"); (case hx2 => with_unfolding_all rfl))
  | ((with_reducible refine' cA ?hx1 ?hx2 ?_); (case hx1 => walk_at "sq"); (case hx2 => with_unfolding_all rfl))
  | ((with_reducible refine' NB ?hx1 ?hx2 ?_); (case hx1 => walk_at "sq"); (case hx2 => with_unfolding_all rfl))
  | ((with_reducible refine' eX ?hx1 ?hx2 ?hx3 ?_); (case hx1 => with_reducible first | assumption | exact aM); (case hx2 => with_unfolding_all rfl); (case hx3 => with_unfolding_all rfl))
  | with_reducible refine ⟨_, rfl, ?_⟩
  | with_reducible refine ⟨_, _, rfl, ?_⟩)
local macro_rules | `(tactic| walk_at "w") => `(tactic| repeat walk_at "rd")
local macro_rules | `(tactic| walk_at "d") => `(tactic| exact ⟨rfl,rfl,rfl,by decide +kernel,rfl,by decide +kernel,by decide +kernel⟩)
namespace Lw
open PySem PySem.Spec PyProof.Rows L2 Nm
local macro_rules | `(tactic| exists $e) => `(tactic| (walk_at "w";refine $e))
set_option maxHeartbeats 4000000
def top (i:Nat):Stmt:=PySem.Challenge.pw_helmsum_k74_parts_alike.main.body.getD i (.Pass ⟨0,0,0,0⟩)
abbrev uM:Stmt:=top 64
abbrev rB:Stmt:=top 65
abbrev kO:Stmt:=top 81
abbrev rL:Stmt:=top 83
abbrev uJ:Stmt:=top 66
abbrev uH:Stmt:=top 67
abbrev rF:Stmt:=top 74
abbrev rE:Stmt:=top 69
abbrev xV:Stmt:=top 76
abbrev pG:Stmt:=top 78
abbrev jC:Stmt:=top 84
abbrev nJ:Stmt:=top 71
abbrev uI:Stmt:=top 72
abbrev rJ:Stmt:=top 77
abbrev pF:Stmt:=top 79
abbrev nI:Stmt:=top 85
abbrev rj:Stmt:=top 48
abbrev uF:Stmt:=top 10
abbrev jB:Stmt:=top 11
abbrev rA:Stmt:=top 13
abbrev Aw:Stmt:=top 17
abbrev nH:Stmt:=top 49
abbrev dX:Stmt:=inClass (top 50) 0
abbrev nL:Stmt:=top 80
abbrev rK:Stmt:=top 86
abbrev rC:Stmt:=top 70
abbrev rM:Stmt:=top 68
abbrev pH:Stmt:=top 75
abbrev rN:Stmt:=top 93
abbrev uK:Stmt:=top 73
abbrev xU:Stmt:=top 82
abbrev pJ:Stmt:=top 94
abbrev rG:Stmt:=top 95
abbrev pC:Stmt:=top 96
abbrev rn:Stmt:=top 19
abbrev i8:Stmt:=top 12
abbrev kx:Stmt:=top 18
abbrev pz:Stmt:=top 31
abbrev xT:Stmt:=top 33
abbrev pA:Stmt:=top 32
abbrev Eh:Stmt:=top 34
abbrev Av:Stmt:=top 14
abbrev xN:Stmt:=top 35
abbrev xM:Stmt:=top 20
abbrev xS:Stmt:=top 23
abbrev o9:Stmt:=top 41
abbrev nE:Stmt:=top 42
abbrev o8:Stmt:=top 43
abbrev uE:Stmt:=top 21
abbrev kv:Stmt:=top 28
abbrev xQ:Stmt:=top 29
abbrev nG:Stmt:=top 30
abbrev ph:Stmt:=top 55
abbrev ks:Stmt:=top 56
abbrev nF:Stmt:=top 24
abbrev eV:Stmt:=inClass (top 50) 3
abbrev Ej:Stmt:=top 15
abbrev xP:Stmt:=top 37
abbrev Ei:Stmt:=top 38
abbrev nD:Stmt:=top 52
abbrev o7:Stmt:=top 57
abbrev rk:Stmt:=top 26
abbrev xR:Stmt:=top 39
abbrev pe:Stmt:=top 25
abbrev uG:Stmt:=top 54
abbrev ma:Stmt:=top 59
abbrev xO:Stmt:=top 60
abbrev l9:Stmt:=top 61
abbrev rz:Stmt:=top 62
abbrev rD:Stmt:=top 88
abbrev pB:Stmt:=top 87
abbrev rH:Stmt:=top 89
abbrev pI:Stmt:=top 99
abbrev jE:Stmt:=top 90
abbrev nK:Stmt:=top 91
abbrev md:Stmt:=top 92
abbrev jD:Stmt:=top 98
abbrev ky:Stmt:=top 97
abbrev uL:Stmt:=top 100
abbrev Lc:Stmt:=top 101
set_option genInjectivity false in
set_option genSizeOf false in
structure Ads where
 BI:Addr
 Bq:FuncData
 zo:Addr
 yT:FuncData
 xf:Addr
 wb:FuncData
 zC:Addr
 y8:FuncData
 BF:Addr
 Bm:FuncData
 BD:Addr
 Bj:FuncData
 zx:Addr
 yX:FuncData
 zw:Addr
 yW:FuncData
 Dy:Addr
 C9:FuncData
 xi:Addr
 wo:FuncData
 oM:Addr
 oE:FuncData
 ui:Addr
 tZ:FuncData
 BE:Addr
 Bl:FuncData
 zA:Addr
 y4:FuncData
 xh:Addr
 wg:FuncData
 uh:Addr
 tY:FuncData
 zg:Addr
 yO:FuncData
 BB:Addr
 Bh:FuncData
 oK:Addr
 oC:FuncData
 zm:Addr
 yS:FuncData
 GN:Addr
 Gy:FuncData
 ug:Addr
 tX:FuncData
 jt:Addr
 js:FuncData
 uk:Addr
 t8:FuncData
 zB:Addr
 y7:FuncData
 zu:Addr
 yU:FuncData
 zD:Addr
 y9:FuncData
 xj:Addr
 wC:FuncData
 zE:Addr
 zd:FuncData
 BG:Addr
 Bn:FuncData
 Dx:Addr
 C8:FuncData
 xl:Addr
 wF:FuncData
 zy:Addr
 yY:FuncData
 xg:Addr
 we:FuncData
 zi:Addr
 yQ:FuncData
 m8:Addr
 m7:FuncData
 qL:Addr
 qG:FuncData
 wY:Addr
 v8:FuncData
 Dw:Addr
 C7:FuncData
 wZ:Addr
 v9:FuncData
 JF:Addr
 Jx:FuncData
 GK:Addr
 Gx:FuncData
 Dn:Addr
 C1:FuncData
 Dm:Addr
 C0:FuncData
 Dv:Addr
 C6:FuncData
 wV:Addr
 vZ:FuncData
 uc:Addr
 tT:FuncData
 wQ:Addr
 vY:FuncData
 BA:Addr
 Bg:FuncData
 qK:Addr
 qF:FuncData
 Ds:Addr
 C4:FuncData
 uf:Addr
 tW:FuncData
 wX:Addr
 v7:FuncData
 qJ:Addr
 qE:FuncData
 ue:Addr
 tV:FuncData
 kH:Addr
 kG:FuncData
 JH:Addr
 Jz:FuncData
 Dq:Addr
 C3:FuncData
 JG:Addr
 Jy:FuncData
 t9:Addr
 tS:FuncData
 wO:Addr
 vX:FuncData
 zh:Addr
 yP:FuncData
 Dt:Addr
 C5:FuncData
 wW:Addr
 v5:FuncData
 BC:Addr
 Bi:FuncData
 sU:Addr
 sO:FuncData
 Dp:Addr
 C2:FuncData
 sT:Addr
 sN:FuncData
 zj:Addr
 yR:FuncData
 zv:Addr
 yV:FuncData
 w5:Addr
 wa:FuncData
 zz:Addr
 yZ:FuncData
 xk:Addr
 wD:FuncData
 oO:Addr
 oG:FuncData
 uj:Addr
 t7:FuncData
 sV:Addr
 sP:FuncData
 oN:Addr
 oF:FuncData
 qM:Addr
 qH:FuncData
 BH:Addr
 Bo:FuncData
 O6:Addr
 O5:FuncData
 a_NOUGHT:Addr
 a_ONE:Addr
 t_MOST_STATES:Tok
 t_MOST_PUTS:Tok
 t_MOST_LOOKS:Tok
 a_System:Addr
structure Txt (K:W.Frag) (mg:Str->Option Value) (Z:Ads):Prop where
 sC:Df K mg "_law_bag" uM ["_law_script"] Z.BI Z.Bq
 a9:Df K mg "_law_take" rB ["_law_bag_here","_law_many"] Z.zo Z.yT
 nV:Df K mg "_law_sizes" kO ["_law_bag_here"] Z.xf Z.wb
 ji:Df K mg "_law_line" rL ["_law_bag_here","_law_n"] Z.zC Z.y8
 eE:Df K mg "_law_low" uJ ["_law_top","_law_bottom"] Z.BF Z.Bm
 iQ:Df K mg "_law_sum" uH ["_law_one","_law_other"] Z.BD Z.Bj
 kY:Df K mg "_law_plus" rF ["_law_one","_law_other"] Z.zx Z.yX
 ie:Df K mg "_law_prod" rE ["_law_one","_law_other"] Z.zw Z.yW
 iI:Df K mg "_law_by" xV ["_law_by_here","_law_row_here"] Z.Dy Z.C9
 j5:Df K mg "_law_mixed" pG ["_law_bag_here","_law_move_here","_law_put","_law_look"] Z.xi Z.wo
 jh:Df K mg "_law_two_lines" jC ["_law_bag_here"] Z.oM Z.oE
 mG:Df K mg "_law_number" nJ ["_law_bag_here","_law_wide"] Z.ui Z.tZ
 iS:Df K mg "_law_row" uI ["_law_bag_here","_law_many","_law_wide"] Z.BE Z.Bl
 p4:Df K mg "_law_move" rJ ["_law_bag_here","_law_n","_law_way","_law_first","_law_wide"] Z.zA Z.y4
 nX:Df K mg "_law_parts" pF ["_law_bag_here","_law_n","_law_ins","_law_outs","_law_wide"] Z.xh Z.wg
 mE:Df K mg "_law_system" nI ["_law_bag_here"] Z.uh Z.tY
 je:Df K mg "want_list" rj ["thing","at","most"] Z.zg Z.yO
 mY:Df K mg "is_whole" uF ["thing"] Z.BB Z.Bh
 eZ:Df K mg "common_divisor" jB ["one","other"] Z.oK Z.oC
 pV:Df K mg "is_number" rA ["thing"] Z.zm Z.yS
 yo:Df K mg "is_row" Aw ["thing","many"] Z.GN Z.Gy
 gX:Df K mg "copied_rows" nH ["things","wide"] Z.ug Z.tX
 fg:Binds K Z.js ["self","move","put","look"] []
 ng:MM K "__init__" "System.__init__" dX Z.jt Z.js
 gY:Df K mg "_law_copied" nL ["_law_grid"] Z.uk Z.t8
 p5:Df K mg "_law_made" rK ["_law_parts_here"] Z.zB Z.y7
 pW:Df K mg "_law_quot" rC ["_law_one","_law_other"] Z.zu Z.yU
 p6:Df K mg "_law_less" rM ["_law_one","_law_other"] Z.zD Z.y9
 j6:Df K mg "_law_minus" pH ["_law_one","_law_other"] Z.xj Z.wC
 kZ:Df K mg "_law_lean" rN ["_law_rows","_law_wide"] Z.zE Z.zd
 m4:Df K mg "_law_dot" uK ["_law_one","_law_other"] Z.BG Z.Bn
 mF:Df K mg "_law_on" xU ["_law_grid","_law_row_here"] Z.Dx Z.C8
 nY:Df K mg "_law_added" pJ ["_law_parts_here","_law_steps_here"] Z.xl Z.wF
 pY:Df K mg "_law_over" rG ["_law_parts_here","_law_row_here"] Z.zy Z.yY
 nW:Df K mg "_law_shown" pC ["_law_parts_here","_law_steps_here"] Z.xg Z.we
 jf:Df K mg "tops_over" rn ["row","bottom"] Z.zi Z.yQ
 iH:Df K mg "common_multiple" i8 ["wholes"] Z.m8 Z.m7
 fK:Df K mg "common_bottom" kx ["row"] Z.qL Z.qG
 nQ:Df K mg "first_with" pz ["lines","begin","place"] Z.wY Z.v8
 uV:Df K mg "cleared" xT ["lines","at","place","before"] Z.Dw Z.C7
 nR:Df K mg "brought_up" pA ["lines","at","to"] Z.wZ Z.v9
 AX:Df K mg "swept" Eh ["rows","wide"] Z.JF Z.Jx
 oA:Df K mg "lowest" Av ["top","bottom"] Z.GK Z.Gx
 jM:Df K mg "reduced" xN ["rows","wide"] Z.Dn Z.C1
 uS:Df K mg "row_dot" xM ["one","other"] Z.Dm Z.C0
 jO:Df K mg "grid_on" xS ["grid","row"] Z.Dv Z.C6
 nP:Df K mg "moved_rows" o9 ["system","rows"] Z.wV Z.vZ
 mC:Df K mg "reach_grown" nE ["system","steps"] Z.uc Z.tT
 jX:Df K mg "reach_rows" o8 ["system","steps"] Z.wQ Z.vY
 kg:Df K mg "unit_row" uE ["many","at"] Z.BA Z.Bg
 jN:Df K mg "leading_place" kv ["row"] Z.qK Z.qF
 mD:Df K mg "leading" xQ ["rows"] Z.Ds Z.C4
 jg:Df K mg "free_places" nG ["rows","wide"] Z.uf Z.tW
 jZ:Df K mg "free_units" ph ["rows","wide"] Z.wX Z.v7
 hZ:Df K mg "steered_first" ks ["system"] Z.qJ Z.qE
 gW:Df K mg "grid_turned" nF ["grid","wide"] Z.ue Z.tV
 oB:QY K Z.a_System "turned" Z.kH
 qI:Binds K Z.kG ["self"] []
 qN:MM K "turned" "System.turned" eV Z.kH Z.kG
 AZ:Df K mg "minus" Ej ["one","other"] Z.JH Z.Jz
 uT:Df K mg "null_at" xP ["rows","wide","at"] Z.Dq Z.C3
 AY:Df K mg "nulls" Ei ["rows","wide"] Z.JG Z.Jy
 mB:Df K mg "unseen_rows" nD ["system","steps"] Z.t9 Z.tS
 jW:Df K mg "seen_first" o7 ["system"] Z.wO Z.vX
 pS:Df K mg "unit_grid" rk ["many"] Z.zh Z.yP
 uU:Df K mg "inverse" xR ["grid"] Z.Dt Z.C5
 jY:Df K mg "grid_times" pe ["one","other","wide"] Z.wW Z.v5
 mZ:Df K mg "in_basis" uG ["system","rows"] Z.BC Z.Bi
 fZ:Df K mg "first_places" ma ["rows","many"] Z.sU Z.sO
 pU:Df K mg "part_by" xO ["system","found"] Z.Dp Z.C2
 kF:Df K mg "steered_part" l9 ["system"] Z.sT Z.sN
 pT:Df K mg "seen_part" rz ["system"] Z.zj Z.yR
 pX:Df K mg "_law_puts" rD ["_law_bag_here","_law_parts_here","_law_steps_here","_law_wide"] Z.zv Z.yV
 nU:Df K mg "_law_steps" pB ["_law_bag_here","_law_parts_here"] Z.w5 Z.wa
 pZ:Df K mg "_law_next" rH ["_law_parts_here","_law_state","_law_puts_here"] Z.zz Z.yZ
 j7:Df K mg "_law_looks" pI ["_law_parts_here","_law_puts_here"] Z.xk Z.wD
 jm:Df K mg "_law_is_number" jE ["_law_thing"] Z.oO Z.oG
 mH:Df K mg "_law_is_row" nK ["_law_thing","_law_many"] Z.uj Z.t7
 gs:Df K mg "_law_is_grid" md ["_law_thing","_law_many","_law_wide"] Z.sV Z.sP
 jk:Df K mg "_law_is_system" jD ["_law_thing","_law_n","_law_ins","_law_outs"] Z.oN Z.oF
 ig:Df K mg "_law_parts_of" ky ["_law_system_here"] Z.qM Z.qH
 sA:Df K mg "_law_cut" uL ["_law_system_here","_law_rows","_law_many"] Z.BH Z.Bo
 O9:MM K "law" "law" Lc Z.O6 Z.O5
 abs:mg "abs"=none
 len:mg "len"=none
 min:mg "min"=none
 int:mg "int"=none
 range:mg "range"=none
 isinstance:mg "isinstance"=none
 list:mg "list"=none
 bool:mg "bool"=none
 tuple:mg "tuple"=none
 all:mg "all"=none
 enumerate:mg "enumerate"=none
 zip:mg "zip"=none
 sum:mg "sum"=none
 max:mg "max"=none
 mg_NOUGHT:mg "NOUGHT"=some (.ref Z.a_NOUGHT)
 sq_NOUGHT:∀H,mP K H Z.a_NOUGHT [.int 0,.int 1]
 mg_ONE:mg "ONE"=some (.ref Z.a_ONE)
 sq_ONE:∀H,mP K H Z.a_ONE [.int 1,.int 1]
 mg_MOST_STATES:mg "MOST_STATES"=some (.int 8 Z.t_MOST_STATES)
 mg_MOST_PUTS:mg "MOST_PUTS"=some (.int 4 Z.t_MOST_PUTS)
 mg_MOST_LOOKS:mg "MOST_LOOKS"=some (.int 4 Z.t_MOST_LOOKS)
 mg_System:mg "System"=some (.ref Z.a_System)
 cl_System:KC K Z.a_System
 na_move:ju K Z.a_System "move"
 na_states:ju K Z.a_System "states"
 na_put:ju K Z.a_System "put"
 na_ins:ju K Z.a_System "ins"
 na_look:ju K Z.a_System "look"
 na_outs:ju K Z.a_System "outs"
 mk_System:Mk K Z.a_System Z.jt
 ty_System:(∀{H:Hp} {a dx:Addr} {fs:List (Str×V)},H a=some (.ins Z.a_System dx fs)->va K H (.ref a) (.ref Z.a_System))/\W.kitOne K (.ref Z.a_System) (.ref Z.a_System)=some true
section
variable {P:Program} {w:World} {K:W.Frag} {mg:Str->Option Value} {base:Heap} {Z:Ads}
theorem FQ:aV ["_law_script"] ["_law_script"] (aI uM):=by walk_at "d"
theorem F1 (T:Txt K mg Z):cK P w K mg base fu 1 Z.BI Z.Bq ["_law_script"] (K7 K):=by
 refine T.sC.F.ok FQ (λvs H Q E h=>?_) (λcdv A outer s H vs Q E hr h=>?_)
 ·obtain ⟨a,ns,rfl,_⟩:=h;rfl
 ·obtain ⟨a,ns,rfl,hS,hlen,k⟩:=h;refine ⟨_,(aB (aW (dD (ae au (ae au (ae au (ae (cf ["_law_cell"] [] [] (cp (jb DW (pv 0) kU (kT au))) (λ_=>(aN (i:=0) (show ND9 ["_law_cell"] by decide +kernel))) (λ_=>cm) (λ_=>(bK wH (by rfl) T.abs PyProof.Rows.boot_abs (ae (pv 0) ak)))) ak))))))),?_⟩;refine aP (σ:=[some (.ref a)]) rfl ?_;exists ⟨a,_,rfl,hS,λl hl=>?_⟩;have hcl:(tx (ns.map V.int) none (some 63)).length<=63:=ai (ze _ _ _) (by simpa using hlen);refine ⟨l,rfl,⟨_,bU.of aM⟩,?_⟩;refine dJ (K:=K) (a:=l) (xs:=tx (ns.map V.int) none (some 63)) (λi ys H'=>H'=upd H l (.lst (tx (ns.map V.int) none (some 63)))/\∃cs:List Int,ys=cs.map V.int/\∀x∈cs,0<=x) (ai hcl (by decide)) ⟨rfl,[],rfl,λ_ z=>nomatch z⟩ (λi ys H' _ ⟨e,_⟩=>by subst e;exact bU.of aM) ?_ ?_
  ·rintro i x ys H' hx hi ⟨rfl,cs,rfl,hcs⟩
   obtain ⟨z,rfl⟩:∃z,x=V.int z:=by
    have hm:x∈ns.map V.int:=DF (bG (ar hx));obtain ⟨z,_,e⟩:=aw.mp hm;exact ⟨z,e.symm⟩
   exists ⟨rfl,cs++[if z < 0 then -z else z],by simp,λx hx=>?_⟩;rcases az.mp hx with hx | hx
   ·exact hcs x hx
   ·have e:x=if z < 0 then -z else z:=by simpa using hx
    subst e
    split <;> lia
  ·rintro ys H' hy ⟨rfl,cs,rfl,hcs⟩ p hp;exists ⟨by show 4<=sizeLine;decide,λb hb=>?_⟩;have n1:b≠p:=λz=>by rw[z,aM] at hb;cases hb
   have hb1:(upd H l (.lst (tx (ns.map V.int) none (some 63)))) b=none:=by rw[bN n1] at hb;exact hb
   have s1:aH H (upd H l (.lst (tx (ns.map V.int) none (some 63)))):=aH.new hl;refine k b _ (s1.free hb1) ⟨p,0,1234567891,0,cs,aM,by rw[bN n1.symm];exact aM,by decide,by decide,by lia,hcs⟩ ((s1.trans (aH.new hp)).trans (aH.new hb))
theorem fU:aV ["_law_bag_here","_law_many","_law_more","_law_cell","_law_value","_law_first","_law_second"] ["_law_bag_here","_law_many"] (aI rB):=by walk_at "d"
theorem bx (T:Txt K mg Z):cK P w K mg base fu 1 Z.zo Z.yT ["_law_bag_here","_law_many"] Nb:=by
 refine T.a9.F.ok fU (λvs H Q E h=>?_) (λcdv A outer s H vs Q E hr h=>?_)
 ·obtain ⟨p,n,rfl,_⟩:=h;rfl
 ·obtain ⟨p,n,rfl,⟨q,a,b,c,cs,hp,hq,ha,hc,hcl,hcs⟩,hn,hn2,k⟩:=h;have nqp:q≠p:=Kx hp hq
  refine ⟨_,(iN (dh (bF fI (aX bZ (pv 0) au) au (bS _)) (ax (aZ (i:=2) fU.nd rfl (Or.inl rfl) au)
   (iN (dh (bF rW (aX bZ (pv 0) au) (bK bc (by rfl) T.len aU (ae (aX bZ (pv 0) au) ak)) (bS _)) (ax (aZ (i:=3) fU.nd rfl (Or.inl rfl) (aX bZ (aX bZ (pv 0) au) (aX bZ (pv 0) au)))
   (ax (NO (pv 0) au Me au QF set_list)
   (ax (dh (bF CM (pv 3) au (bS _)) (aB (fG (pv 3) (gQ (pv 0) au set_list))) cu)
   (aB (aZ (i:=2) fU.nd rfl (Or.inl rfl) (bT fJ (bT nN (pv 3) au) au)))))) cu)
   (aB (fG (bT nN (bT fJ (bT cZ (aX bZ (pv 0) au) au) (pv 2)) au) (gQ (pv 0) au set_list))))) cu)
   (ax (dh (bF vH (aX bZ (pv 0) au) au (bS _)) (ax (aZ (i:=4) fU.nd rfl (Or.inl rfl) (bT nN (aX bZ (pv 0) au) (pv 1)))
   (ax (fG (bT iw (aX bZ (pv 0) au) (pv 1)) (gQ (pv 0) au set_list))
   (aB (aW (pv 4))))) cu)
   (ax (aZ (i:=5) fU.nd rfl (Or.inl rfl) (bT nN (bT cZ (aX bZ (pv 0) au) au) au))
   (ax (aZ (i:=6) fU.nd rfl (Or.inl rfl) (bT nN (bT cZ (pv 5) au) au))
   (ax (dh (bF vH (pv 1) au (bS _)) (aB (aW (bT nN (bT fJ (bT cZ (pv 6) au) (pv 5)) (pv 1)))) cu)
   (aB (aW (bT nN (bT iw (pv 6) au) (pv 1))))))))),?_⟩
  refine aP (σ:=[some (.ref p),some (.int n),none,none,none,none,none]) rfl ?_;refine ⟨λσ' H'=>∃(x y:Option V) (a' b' c':Int),σ'=[some (.ref p),some (.int n),x,y,none,none,none]/\H' p=some (.lst [.int a',.int b',.int c',.ref q])/\0<=a'/\0<=c'/\c'<=cs.length/\c5 p H H',?_,?_⟩
  ·exists gZ (λh0=>?_) (λh0=>?_)
   ·exists ⟨λσ' H'=>∃(m:Int) (y:Option V) (a' c':Int),σ'=[some (.ref p),some (.int n),some (.int m),y,none,none,none]/\H' p=some (.lst [.int a',.int b,.int c',.ref q])/\0<=a'/\0<=c'/\c'<=cs.length/\c5 p H H',?_,?_⟩
    ·exists ⟨_,_,rfl,.inl (bU.of hq),?_⟩;exists gZ (λh1=>?_) (λh1=>?_)
     ·have h1':c < cs.length:=by simpa using of_decide_eq_true h1
      obtain ⟨z,hz⟩:∃z,cs[c.toNat]?=some z:=⟨_,af (by lia)⟩;have hz0:0<=z:=hcs z (ar hz);exists cA (bU.of hq) (v:=.int z) ?_ ?_
      ·have:=dG (xs:=cs.map V.int) (j:=c.toNat) (v:=.int z) (by rw[aD,hz];rfl);rwa [Int.toNat_of_nonneg hc] at this
      exists gZ (λh2=>?_) (λh2=>?_)
      ·exists ⟨_,_,z,c+1,rfl,aM,hz0,by lia,by lia,(c5.set hp).trans (c5.set aM)⟩
      ·exists ⟨_,_,a,c+1,rfl,aM,ha,by lia,by lia,c5.set hp⟩
     ·exists ⟨_,_,a,c,rfl,hp,ha,hc,hcl,c5.refl _⟩
    ·rintro σ' H' ⟨m,y,a',c',rfl,hp',ha',hc',hcl',u'⟩;exists ⟨_,_,a',_,c',rfl,aM,ha',hc',hcl',u'.trans (c5.set hp')⟩
   ·exists ⟨_,_,a,b,c,rfl,hp,ha,hc,hcl,c5.refl _⟩
  ·rintro σ' H' ⟨x,y,a',b',c',rfl,hp',ha',hc',hcl',u'⟩;have hq':H' q=some (.lst (cs.map V.int)):=u'.1 q _ hq nqp
   have sn:Sz 8999 n:=by
    show n.natAbs < 2^8999
    exact bJ (show n.natAbs < 2^64 by lia) (ao (by decide) (by decide))
   exists gZ (λh0=>?_) (λh0=>?_)
   ·exists fF (show (0:Int) < n from hn) ?_;exists fF (show oQ _ _ from ⟨by lia,sn⟩) ?_;exists k _ _ (lH _ (by lia)) (iF _ hn) ⟨q,_,b',c',cs,aM,by rw[bN nqp];exact hq',?_,hc',hcl',hcs⟩ (u'.trans (c5.set hp'));rw[cE _ (by lia)];exact Int.ediv_nonneg ha' (by lia)
   ·exists gZ (λh1=>?_) (λh1=>?_)
    ·exists fF (show (0:Int) < n from hn) ?_;exact k _ _ (lH _ (by lia)) (iF _ hn) ⟨q,a',b',c',cs,hp',hq',ha',hc',hcl',hcs⟩ u'
    ·exists fF (show oQ _ _ from ⟨by decide,by show (3:Nat) < 2^8999;exact bJ (show 3 < 2^2 by decide) (ao (by decide) (by decide))⟩) ?_;exists fF (show (0:Int) < n from hn) ?_;exact k _ _ (lH _ (by lia)) (iF _ hn) ⟨q,a',b',c',cs,hp',hq',ha',hc',hcl',hcs⟩ u'
theorem Ck:∃x1 x2 x3 x4 x5 x6 x7 x8 x9 x10 x11 x12 x13 x14 x15 x16:Expr,x1=(Expr.Constant (Const.int 0) 0 ⟨322,16,322,17⟩)/\x2=(Expr.Constant (Const.int 1) 0 ⟨322,19,322,20⟩)/\x3=(Expr.Constant (Const.int 1) 0 ⟨322,22,322,23⟩)/\x4=(Expr.Constant (Const.int 1) 0 ⟨322,25,322,26⟩)/\x5=(Expr.Constant (Const.int 2) 0 ⟨322,28,322,29⟩)/\x6=(Expr.Constant (Const.int 2) 0 ⟨322,31,322,32⟩)/\x7=(Expr.Constant (Const.int 3) 0 ⟨322,34,322,35⟩)/\x8=(Expr.Constant (Const.int 4) 0 ⟨322,37,322,38⟩)/\x9=(Expr.Constant (Const.int 0) 0 ⟨323,17,323,18⟩)/\x10=(Expr.Constant (Const.int 1) 0 ⟨323,20,323,21⟩)/\x11=(Expr.Constant (Const.int 1) 0 ⟨323,23,323,24⟩)/\x12=(Expr.Constant (Const.int 1) 0 ⟨323,26,323,27⟩)/\x13=(Expr.Constant (Const.int 2) 0 ⟨323,29,323,30⟩)/\x14=(Expr.Constant (Const.int 2) 0 ⟨323,32,323,33⟩)/\x15=(Expr.Constant (Const.int 3) 0 ⟨323,35,323,36⟩)/\x16=(Expr.Constant (Const.int 4) 0 ⟨323,38,323,39⟩)/\jq kO=[ (Stmt.Assign (targets:=[(Expr.Name "_law_n" ⟨319,4,319,10⟩)]) (value:=(Expr.Call (func:=(Expr.Name "_law_take" ⟨319,13,319,22⟩)) (args:=[ (Expr.Name "_law_bag_here" ⟨319,23,319,36⟩),(Expr.Constant (Const.int 5) 0 ⟨319,38,319,39⟩)]) (keywords:=[]) (pos:=⟨319,13,319,40⟩))) (pos:=⟨319,4,319,40⟩)),(Stmt.If (test:=(Expr.Compare (left:=(Expr.Call (func:=(Expr.Name "_law_take" ⟨320,7,320,16⟩)) (args:=[ (Expr.Name "_law_bag_here" ⟨320,17,320,30⟩),(Expr.Constant (Const.int 8) 0 ⟨320,32,320,33⟩)]) (keywords:=[]) (pos:=⟨320,7,320,34⟩))) (ops:=[PySem.CmpOp.Eq]) (comparators:=[(Expr.Constant (Const.int 7) 0 ⟨320,38,320,39⟩)]) (pos:=⟨320,7,320,39⟩))) (body:=[ (Stmt.Assign (targets:=[(Expr.Name "_law_n" ⟨321,8,321,14⟩)]) (value:=(Expr.Constant (Const.int 5) 0 ⟨321,17,321,18⟩)) (pos:=⟨321,8,321,18⟩))]) (orelse:=[]) (pos:=⟨320,4,321,18⟩)),(Stmt.Assign (targets:=[(Expr.Name "_law_ins" ⟨322,4,322,12⟩)]) (value:=(Expr.Subscript (value:=(Expr.List (elts:=[x1,x2,x3,x4,x5,x6,x7,x8]) (pos:=⟨322,15,322,39⟩))) (slice:=(Expr.Call (func:=(Expr.Name "_law_take" ⟨322,40,322,49⟩)) (args:=[ (Expr.Name "_law_bag_here" ⟨322,50,322,63⟩),(Expr.Constant (Const.int 8) 0 ⟨322,65,322,66⟩)]) (keywords:=[]) (pos:=⟨322,40,322,67⟩))) (pos:=⟨322,15,322,68⟩))) (pos:=⟨322,4,322,68⟩)),(Stmt.Assign (targets:=[(Expr.Name "_law_outs" ⟨323,4,323,13⟩)]) (value:=(Expr.Subscript (value:=(Expr.List (elts:=[x9,x10,x11,x12,x13,x14,x15,x16]) (pos:=⟨323,16,323,40⟩))) (slice:=(Expr.Call (func:=(Expr.Name "_law_take" ⟨323,41,323,50⟩)) (args:=[ (Expr.Name "_law_bag_here" ⟨323,51,323,64⟩),(Expr.Constant (Const.int 8) 0 ⟨323,66,323,67⟩)]) (keywords:=[]) (pos:=⟨323,41,323,68⟩))) (pos:=⟨323,16,323,69⟩))) (pos:=⟨323,4,323,69⟩)),(Stmt.If (test:=(Expr.Compare (left:=(Expr.Name "_law_n" ⟨324,7,324,13⟩)) (ops:=[PySem.CmpOp.Eq]) (comparators:=[(Expr.Constant (Const.int 5) 0 ⟨324,17,324,18⟩)]) (pos:=⟨324,7,324,18⟩))) (body:=[ (Stmt.Assign (targets:=[ (Expr.Tuple (elts:=[(Expr.Name "_law_ins" ⟨325,8,325,16⟩),(Expr.Name "_law_outs" ⟨325,18,325,27⟩)]) (k:=0) (pos:=⟨325,8,325,27⟩))]) (value:=(Expr.Tuple (elts:=[ (Expr.Call (func:=(Expr.Name "min" ⟨325,31,325,34⟩)) (args:=[ (Expr.Name "_law_ins" ⟨325,35,325,43⟩),(Expr.Constant (Const.int 2) 0 ⟨325,45,325,46⟩)]) (keywords:=[]) (pos:=⟨325,31,325,47⟩)),(Expr.Call (func:=(Expr.Name "min" ⟨325,49,325,52⟩)) (args:=[ (Expr.Name "_law_outs" ⟨325,53,325,62⟩),(Expr.Constant (Const.int 2) 0 ⟨325,64,325,65⟩)]) (keywords:=[]) (pos:=⟨325,49,325,66⟩))]) (k:=0) (pos:=⟨325,30,325,67⟩))) (pos:=⟨325,8,325,67⟩))]) (orelse:=[]) (pos:=⟨324,4,325,67⟩)),(Stmt.Assign (targets:=[(Expr.Name "_law_wide" ⟨326,4,326,13⟩)]) (value:=(Expr.Subscript (value:=(Expr.List (elts:=[ (Expr.Constant (Const.int 4) 0 ⟨326,17,326,18⟩),(Expr.Constant (Const.int 4) 0 ⟨326,20,326,21⟩),(Expr.Constant (Const.int 9) 0 ⟨326,23,326,24⟩),(Expr.Constant (Const.int 1000000) 0 ⟨326,26,326,33⟩)]) (pos:=⟨326,16,326,34⟩))) (slice:=(Expr.Call (func:=(Expr.Name "_law_take" ⟨326,35,326,44⟩)) (args:=[ (Expr.Name "_law_bag_here" ⟨326,45,326,58⟩),(Expr.Constant (Const.int 4) 0 ⟨326,60,326,61⟩)]) (keywords:=[]) (pos:=⟨326,35,326,62⟩))) (pos:=⟨326,16,326,63⟩))) (pos:=⟨326,4,326,63⟩)),(Stmt.If (test:=(Expr.Compare (left:=(Expr.Name "_law_wide" ⟨327,7,327,16⟩)) (ops:=[PySem.CmpOp.Gt]) (comparators:=[(Expr.Constant (Const.int 9) 0 ⟨327,19,327,20⟩)]) (pos:=⟨327,7,327,20⟩))) (body:=[ (Stmt.Assign (targets:=[(Expr.Name "_law_n" ⟨328,8,328,14⟩)]) (value:=(Expr.Call (func:=(Expr.Name "min" ⟨328,17,328,20⟩)) (args:=[ (Expr.Name "_law_n" ⟨328,21,328,27⟩),(Expr.Constant (Const.int 2) 0 ⟨328,29,328,30⟩)]) (keywords:=[]) (pos:=⟨328,17,328,31⟩))) (pos:=⟨328,8,328,31⟩))]) (orelse:=[]) (pos:=⟨327,4,328,31⟩)),(Stmt.Return (value:=(some (Expr.Tuple (elts:=[ (Expr.Name "_law_n" ⟨329,12,329,18⟩),(Expr.Name "_law_ins" ⟨329,20,329,28⟩),(Expr.Name "_law_outs" ⟨329,30,329,39⟩),(Expr.Name "_law_wide" ⟨329,41,329,50⟩)]) (k:=0) (pos:=⟨329,11,329,51⟩)))) (pos:=⟨329,4,329,51⟩))]:=⟨_,_,_,_,_,_,_,_,_,_,_,_,_,_,_,_,rfl,rfl,rfl,rfl,rfl,rfl,rfl,rfl,rfl,rfl,rfl,rfl,rfl,rfl,rfl,rfl,by with_unfolding_all rfl⟩
theorem eC:aV ["_law_bag_here","_law_n","_law_ins","_law_outs","_law_wide"] ["_law_bag_here"] (aI kO):=by walk_at "d"
theorem Ce (T:Txt K mg Z):cK P w K mg base fu 2 Z.xf Z.wb ["_law_bag_here"] JW:=by
 refine T.nV.F.ok eC (λvs H Q E h=>?_) (λcdv A outer s H vs Q E hr h=>?_)
 ·obtain ⟨b,rfl,_⟩:=h;rfl
 ·obtain ⟨b,rfl,hB,k⟩:=h;obtain ⟨x1,x2,x3,x4,x5,x6,x7,x8,x9,x10,x11,x12,x13,x14,x15,x16,hx1,hx2,hx3,hx4,hx5,hx6,hx7,hx8,hx9,hx10,hx11,hx12,hx13,hx14,hx15,hx16,hbd⟩:=Ck;rw[hbd]
  refine ⟨_,(ax (aZ (i:=1) eC.nd rfl (Or.inl rfl) (cM (bx T) hr T.a9 (ae (pv 0) (ae au ak))))
   (iN (dh (bF fI (cM (bx T) hr T.a9 (ae (pv 0) (ae au ak))) au (bS _)) (aB (aZ (i:=1) eC.nd rfl (Or.inl rfl) au)) cu)
   (ax (aZ (i:=2) eC.nd rfl (Or.inl rfl) (aX bZ (dD (d7 hx1 au (d7 hx2 au (d7 hx3 au (d7 hx4 au (d7 hx5 au (d7 hx6 au (d7 hx7 au (d7 hx8 au ak))))))))) (cM (bx T) hr T.a9 (ae (pv 0) (ae au ak)))))
   (ax (aZ (i:=3) eC.nd rfl (Or.inl rfl) (aX bZ (dD (d7 hx9 au (d7 hx10 au (d7 hx11 au (d7 hx12 au (d7 hx13 au (d7 hx14 au (d7 hx15 au (d7 hx16 au ak))))))))) (cM (bx T) hr T.a9 (ae (pv 0) (ae au ak)))))
   (iN (dh (bF fI (pv 1) au (bS _)) (aB (Lr (i:=2) (j:=3) rfl eC.nd rfl rfl (by decide) rfl rfl (ae (bK (tu rfl) (by rfl) T.min PyProof.Rows.boot_min (ae (pv 2) (ae au ak))) (ae (bK (tu rfl) (by rfl) T.min PyProof.Rows.boot_min (ae (pv 3) (ae au ak))) ak)) rfl)) cu)
   (ax (aZ (i:=4) eC.nd rfl (Or.inl rfl) (aX bZ (dD (ae au (ae au (ae au (ae au ak))))) (cM (bx T) hr T.a9 (ae (pv 0) (ae au ak)))))
   (iN (dh (bF vH (pv 4) au (bS _)) (aB (aZ (i:=1) eC.nd rfl (Or.inl rfl) (bK (tu rfl) (by rfl) T.min PyProof.Rows.boot_min (ae (pv 1) (ae au ak))))) cu)
   (aB (aW (dg (ae (pv 1) (ae (pv 2) (ae (pv 3) (ae (pv 4) ak)))))))))))))),?_⟩
  refine aP (σ:=[some (.ref b),none,none,none,none]) rfl ?_;exists ⟨b,5,rfl,hB,by decide,by decide,λn H1 n0 n1 B1 u1=>?_⟩;obtain ⟨n,rfl⟩:=cP n0;exists ⟨λσ' H'=>(∃n:Nat,σ'=[some (.ref b),some (.int n),none,none,none]/\n<=5)/\ip H' b/\c5 b H H',?_,?_⟩
  ·exists ⟨b,8,rfl,B1,by decide,by decide,λv H2 v0 v1 B2 u2=>?_⟩;exists gZ (λ_=>?_) (λ_=>?_)
   ·exists ⟨⟨5,rfl,by decide⟩,B2,u1.trans u2⟩
   ·exists ⟨⟨n,rfl,by lia⟩,B2,u1.trans u2⟩
  clear n0 n1 u1 B1;rintro σ' H1 ⟨⟨n,rfl,n5⟩,B1,u1⟩;exists c6 λl0 H2 s2 n2 g2=>?_
  exists ⟨b,8,rfl,B1.same s2,by decide,by decide,λv H3 v0 v1 B3 u3=>?_⟩;have g3:=u3.other (λz=>B1.at (by rw[<- z];exact n2)) g2;obtain ⟨x,ex,mx,_⟩:=kh (xs:=[V.int 0,V.int 1,V.int 1,V.int 1,V.int 2,V.int 2,V.int 3,V.int 4]) v0 (by simpa using v1)
  obtain ⟨i,rfl,hi⟩:∃z:Nat,x=.int z/\z<=4:=by
   simp only[aG,a8,or_false] at mx;rcases mx with rfl | rfl | rfl | rfl | rfl | rfl | rfl | rfl
   ·exact ⟨0,rfl,by decide⟩
   ·exact ⟨1,rfl,by decide⟩
   ·exact ⟨1,rfl,by decide⟩
   ·exact ⟨1,rfl,by decide⟩
   ·exact ⟨2,rfl,by decide⟩
   ·exact ⟨2,rfl,by decide⟩
   ·exact ⟨3,rfl,by decide⟩
   ·exact ⟨4,rfl,by decide⟩
  exists cA (bU.of g3) ex ?_;clear ex mx g3 g2;exists c6 λl1 H4 s4 n4 g4=>?_
  exists ⟨b,8,rfl,B3.same s4,by decide,by decide,λt H5 t0 t1 B5 u5=>?_⟩;have g5:=u5.other (λz=>B3.at (by rw[<- z];exact n4)) g4;obtain ⟨x,ex,mx,_⟩:=kh (xs:=[V.int 0,V.int 1,V.int 1,V.int 1,V.int 2,V.int 2,V.int 3,V.int 4]) t0 (by simpa using t1)
  obtain ⟨o,rfl,ho⟩:∃z:Nat,x=.int z/\z<=4:=by
   simp only[aG,a8,or_false] at mx;rcases mx with rfl | rfl | rfl | rfl | rfl | rfl | rfl | rfl
   ·exact ⟨0,rfl,by decide⟩
   ·exact ⟨1,rfl,by decide⟩
   ·exact ⟨1,rfl,by decide⟩
   ·exact ⟨1,rfl,by decide⟩
   ·exact ⟨2,rfl,by decide⟩
   ·exact ⟨2,rfl,by decide⟩
   ·exact ⟨3,rfl,by decide⟩
   ·exact ⟨4,rfl,by decide⟩
  exists cA (bU.of g5) ex ?_;clear ex mx g5 g4;have u15:=(((u1.same s2).trans u3).same s4).trans u5;exists ⟨λσ' H'=>(∃i o:Nat,σ'=[some (.ref b),some (.int n),some (.int i),some (.int o),none]/\i<=4/\o<=4/\(n=5->i<=2/\o<=2))/\ip H' b/\c5 b H H',?_,?_⟩
  ·exists gZ (λh0=>?_) (λh0=>?_)
   ·exists ⟨⟨min i 2,min o 2,?_,by lia,by lia,λ_=>⟨by lia,by lia⟩⟩,B5,u15⟩;have e1:(if (2:Int) < (i:Int) then (2:Int) else (i:Int))=((min i 2:Nat):Int):=by split <;> lia
    have e2:(if (2:Int) < (o:Int) then (2:Int) else (o:Int))=((min o 2:Nat):Int):=by split <;> lia
    rw[<- e1,<- e2];rfl
   ·exists ⟨⟨i,o,rfl,hi,ho,λz=>absurd (decide_eq_true (show (n:Int)=5 by lia)) h0⟩,B5,u15⟩
  clear hi ho u15 B5 u5 u3 u1;rintro σ' H5 ⟨⟨i,o,rfl,hi,ho,h5⟩,B5,u5⟩;exists c6 λl2 H6 s6 n6 g6=>?_
  exists ⟨b,4,rfl,B5.same s6,by decide,by decide,λv H7 v0 v1 B7 u7=>?_⟩;have g7:=u7.other (λz=>B5.at (by rw[<- z];exact n6)) g6;obtain ⟨x,ex,mx,_⟩:=kh (xs:=[V.int 4,V.int 4,V.int 9,V.int 1000000]) v0 (by simpa using v1)
  obtain ⟨w,rfl,hw⟩:∃w:Nat,x=.int w/\(w=4\/w=9\/w=1000000):=by
   simp only[aG,a8,or_false] at mx;rcases mx with rfl | rfl | rfl | rfl
   ·exact ⟨4,rfl,.inl rfl⟩
   ·exact ⟨4,rfl,.inl rfl⟩
   ·exact ⟨9,rfl,.inr (.inl rfl)⟩
   ·exact ⟨1000000,rfl,.inr (.inr rfl)⟩
  exists cA (bU.of g7) ex ?_;have u07:=(u5.same s6).trans u7;exists ⟨λσ' H'=>(∃n:Nat,σ'=[some (.ref b),some (.int n),some (.int i),some (.int o),some (.int w)]/\n<=5/\(w=4\/w=9\/(w=1000000/\n<=2))/\(n=5->i<=2/\o<=2))/\ip H' b/\c5 b H H',?_,?_⟩
  ·exists gZ (λh0=>?_) (λh0=>?_)
   ·exists ⟨⟨min n 2,?_,by lia,by lia,λz=>by lia⟩,B7,u07⟩;have e1:(if (2:Int) < (n:Int) then (2:Int) else (n:Int))=((min n 2:Nat):Int):=by split <;> lia
    rw[<- e1];rfl
   ·exists ⟨⟨n,rfl,n5,?_,h5⟩,B7,u07⟩;rcases hw with z | z | z
    ·exact .inl z
    ·exact .inr (.inl z)
    ·exact absurd (decide_eq_true (show (9:Int) < (w:Int) by lia)) h0
  ·clear h5 n5;rintro σ' H8 ⟨⟨n',rfl,n5,hwn,h5⟩,B8,u8⟩;exists cF λr H9 s9 g9=>?_
   exact k r n' i o w H9 g9 n5 hi ho hwn h5 (B8.same s9) (u8.same s9)
theorem hJ:aV ["_law_bag_here","_law_n","_law_move_here","_law_at","_law_put","_law_first","_law_look"] ["_law_bag_here","_law_n"] (aI rL):=by walk_at "d"
theorem pO (T:Txt K mg Z):cK P w K mg base fu 2 Z.zC Z.y8 ["_law_bag_here","_law_n"] (FA K):=by
 refine T.ji.F.ok hJ (λvs H Q E h=>?_) (λcdv A outer s H vs Q E hr h=>?_)
 ·obtain ⟨b,n,rfl,_⟩:=h;rfl
 ·obtain ⟨b,n,rfl,hB,n1,n8,k⟩:=h
  refine ⟨_,(ax (gG 2 ["_law_i"] ["_law_n"] [1] hJ.nd rfl rfl (cy rfl T.range (ae (pv 1) ak)) (λ_=>(aN (i:=0) (show ND9 ["_law_i","_law_n"] by decide +kernel) rfl (Or.inr rfl) (Or.inl rfl))) (λ_=>cm) (λ_=>(cf ["_law_j"] ["_law_i"] [0] (cy rfl T.range (ae (pv 1) ak)) (λ_=>(aN (i:=0) (show ND9 ["_law_j","_law_i"] by decide +kernel))) (λ_=>cm) (λ_=>(dg (ae (fH oH (by rfl) T.int PyProof.Rows.boot_int (ae (jV fI (pv 0) (bT fJ (pv 1) au) (bS _)) ak)) (ae au ak)))))))
   (ax (fG (cf ["_law_j"] ["_law_bag_here"] [0] (cy rfl T.range (ae (pv 1) ak)) (λ_=>(aN (i:=0) (show ND9 ["_law_j","_law_bag_here"] by decide +kernel))) (λ_=>cm) (λ_=>(dg (ae (bT jJ (cM (bx T) hr T.a9 (ae (pv 1) (ae au ak))) au) (ae au ak))))) (gQ (pv 2) (bT jJ (pv 1) au) set_list))
   (ax (aZ (i:=3) hJ.nd rfl (Or.inr rfl) (aX bZ (dD (ae (bT jJ (pv 1) au) (ae (cM (bx T) hr T.a9 (ae (pv 0) (ae (pv 1) ak))) ak))) (cM (bx T) hr T.a9 (ae (pv 0) (ae au ak)))))
   (ax (aZ (i:=4) hJ.nd rfl (Or.inl rfl) (dD (ae (cf ["_law_j"] ["_law_at"] [3] (cy rfl T.range (ae (pv 1) ak)) (λ_=>(aN (i:=0) (show ND9 ["_law_j","_law_at"] by decide +kernel))) (λ_=>cm) (λ_=>(dg (ae (fH oH (by rfl) T.int PyProof.Rows.boot_int (ae (jV fI (pv 0) (pv 1) (bS _)) ak)) (ae au ak))))) ak)))
   (ax (aZ (i:=5) hJ.nd rfl (Or.inr rfl) (aX bZ (dD (ae au (ae au (ae (cM (bx T) hr T.a9 (ae (pv 0) (ae (pv 1) ak))) ak)))) (cM (bx T) hr T.a9 (ae (pv 0) (ae au ak)))))
   (ax (aZ (i:=6) hJ.nd rfl (Or.inl rfl) (dD (ae (cf ["_law_j"] ["_law_first"] [5] (cy rfl T.range (ae (pv 1) ak)) (λ_=>(aN (i:=0) (show ND9 ["_law_j","_law_first"] by decide +kernel))) (λ_=>cm) (λ_=>(dg (ae (fH oH (by rfl) T.int PyProof.Rows.boot_int (ae (jV fI (pv 0) (pv 1) (bS _)) ak)) (ae au ak))))) ak)))
   (aB (aW (dg (ae (pv 2) (ae (pv 4) (ae (pv 6) ak)))))))))))),?_⟩
  refine aP (σ:=[some (.ref b),some (.int n),none,none,none,none,none]) rfl ?_
  have bit:∀{z:Int},∀y∈(List.range n).map (λ(j:Nat)=>(((if decide ((j:Int)=z)=true then 1 else 0:Int)):Rat)),Fr 1 1 y:=λy hy=>by
   obtain ⟨j,_,rfl⟩:=aw.mp hy;exact RS (by split <;> simp)
  exists ⟨by lia,by lia,?_⟩;refine gD (n:=n) (cI K H) (λ(i:Nat)=>(List.range n).map λ(j:Nat)=>(((if decide ((j:Int)=(i:Int)+1)=true then 1 else 0:Int)):Rat)) (by lia) (λa b=>a.same b) ?_ ?_
  ·rintro i Hb NY NN hi sa k1;exists ⟨by lia,by lia,?_⟩;refine gD (n:=n) (cB K) (λ(j:Nat)=>(((if decide ((j:Int)=(i:Int)+1)=true then 1 else 0:Int)):Rat)) (by lia) (λa b=>a.same b) ?_ ?_
   ·rintro j Hz NY2 NN2 hj sz k2;exists cF λt Hy sy gy=>?_
    exact k2 _ _ sy (cB.mk gy rfl)
   ·rintro ys Hz t ht sz g pr nx;exact k1 _ _ sz ⟨t,rfl,sa.none ht,ys,g,pr⟩
  rintro ys H1 mm hm s1 g1 pr1 nx1;have G1:bo K H H1 mm ((List.range n).map λ(i:Nat)=>(List.range n).map λ(j:Nat)=>(((if decide ((j:Int)=(i:Int)+1)=true then 1 else 0:Int)):Rat)):=⟨ys,g1,pr1,eN nx1⟩;clear g1 pr1 nx1;have B1:=hB.same s1;have mb:mm≠b:=λz=>hB.at (by rw[<- z];exact hm)
  obtain ⟨q0,I0,xq,gq0⟩:=hB.inner;have mq:mm≠q0:=λz=>by rw[<- z,hm] at gq0;cases gq0
  exists ⟨by lia,by lia,?_⟩;refine yz (n:=n) (b:=b) (cB K) (Fr 1 1) B1 (by lia) (λa u B=>a.upto u B) ?_ ?_
  ·rintro j Ha NY NN hj ua Ba k1;exists ⟨b,3,rfl,Ba,by decide,by decide,λv Hb v0 v1 Bb ub=>?_⟩;exists cF λt Hc sc gc=>?_
   exact k1 _ ((v - 1:Int):Rat) _ (ub.same sc) (Bb.same sc) (Fr.int (by lia)) (cB.mk gc rfl)
  rintro ys2 cs H2 q2 hq2 u2 B2 g2 lc hc pr2 _;have u02:=(s1.upto (p:=b)).trans u2;have nq2:H q2=none:=s1.none hq2;obtain ⟨us,gu,pu⟩:=(G1.upto u2 B1 mb hB.at).toE;have lu:=pu.length;rw[ag,bX] at lu
  have q2m:q2≠mm:=λz=>by
   obtain ⟨_,gg,_⟩:=id G1;rw[z,gg] at hq2;cases hq2
  walk_at "w";rw[show ((n:Int) - 1)=((n - 1:Nat):Int) by lia];refine eX gu (fz (by lia)) rfl ?_;have G3:bo K H (upd H2 mm (.lst (us.set (n - 1) (.ref q2)))) mm (((List.range n).map λ(i:Nat)=>(List.range n).map λ(j:Nat)=>(((if decide ((j:Int)=(i:Int)+1)=true then 1 else 0:Int)):Rat)).set (n - 1) cs):=bo.ofE aM (jH (Paired.imp' (λ_ _ z=>oa.updL z gu (λq h=>h.2)) pu) (n - 1) ⟨q2,rfl,⟨nq2,q2m⟩,dI.updL ⟨ys2,g2,pr2⟩ gu q2m⟩) (λq h=>h.1) (λq h=>h.2);have B3:ip (upd H2 mm (.lst (us.set (n - 1) (.ref q2)))) b:=B2.upd (u02.2 _ I0) mb mq;have u03:c5 b H (upd H2 mm (.lst (us.set (n - 1) (.ref q2)))):=u02.after hm;obtain ⟨mv,emv⟩:∃mv,mv=((List.range n).map λ(i:Nat)=>(List.range n).map λ(j:Nat)=>(((if decide ((j:Int)=(i:Int)+1)=true then 1 else 0:Int)):Rat)).set (n - 1) cs:=⟨_,rfl⟩;have lmv:mv.length=n:=by rw[emv,ee,ag,bX]
  have hmv:∀xs∈mv,xs.length=n/\∀y∈xs,Fr 1 1 y:=λxs hx=>by
   rw[emv] at hx;rcases cH hx with hx | rfl
   ·obtain ⟨i,_,rfl⟩:=aw.mp hx;exact ⟨by rw[ag,bX],bit⟩
   ·exact ⟨lc,hc⟩
  rw[<- emv] at G3;generalize upd H2 mm (.lst (us.set (n - 1) (.ref q2)))=H3 at G3 B3 u03 ⊢;clear emv pu gu G1 u2 pr2 g2 B2;exists ⟨b,n,rfl,B3,by lia,by lia,λa1 H4 a10 a11 B4 u4=>?_⟩;exists c6 λl1 H5 s5 nl1 g5=>?_
  exists ⟨b,2,rfl,B4.same s5,by decide,by decide,λv H6 v0 v1 B6 u6=>?_⟩;have g6:=u6.other (λz=>B4.at (by rw[<- z];exact nl1)) g5;obtain ⟨x,ex,mx,_⟩:=kh (xs:=[V.int ((n:Int) - 1),V.int a1]) v0 (by simpa using v1)
  obtain ⟨at',rfl⟩:∃a:Int,x=.int a:=by
   simp only[aG,a8,or_false] at mx;rcases mx with rfl | rfl
   ·exact ⟨_,rfl⟩
   ·exact ⟨_,rfl⟩
  exists cA (bU.of g6) ex ?_;have u36:=(u4.same s5).trans u6;have G6:=G3.upto u36 B3 mb hB.at;have u06:=u03.trans u36;clear ex mx g6 g5 G3 u4 u6;exists ⟨by lia,by lia,?_⟩;refine gD (n:=n) (cB K) (λ(j:Nat)=>(((if decide ((j:Int)=at')=true then 1 else 0:Int)):Rat)) (by lia) (λa b=>a.same b) ?_ ?_
  ·rintro j Hz NY2 NN2 hj sz k2;exists cF λt Hy sy gy=>?_
   exact k2 _ _ sy (cB.mk gy rfl)
  rintro ys7 H7 q7 hq7 s7 g7 pr7 _;have R7:dI K H7 q7 _:=⟨ys7,g7,pr7⟩;exists c6 λp8 H8 s8 n8' g8=>?_
  have s68:=s7.trans s8;have q78:q7≠p8:=λz=>by rw[z,n8'] at g7;cases g7
  have np8:H p8=none:=u06.none B6 (s7.none n8');have nq7:H q7=none:=u06.none B6 hq7
  have GP:bo K H H8 p8 [(List.range n).map λ(j:Nat)=>(((if decide ((j:Int)=at')=true then 1 else 0:Int)):Rat)]:=⟨_,g8,.cons ⟨q7,rfl,nq7,R7.same s8⟩ .nil,λz=>by
   rw[cb] at z;cases z;exact q78 rfl⟩
  have B8:=B6.same s68;have u08:=u06.same s68;have G8:=G6.same s68;have pb:p8≠b:=λz=>hB.at (by rw[<- z];exact np8)
  exists ⟨b,n,rfl,B8,by lia,by lia,λa2 H9 a20 a21 B9 u9=>?_⟩;exists c6 λl2 Ha sa nl2 ga=>?_
  exists ⟨b,3,rfl,B9.same sa,by decide,by decide,λv' Hb v0' v1' Bb ub=>?_⟩;have gb:=ub.other (λz=>B9.at (by rw[<- z];exact nl2)) ga;obtain ⟨x,ex,mx,_⟩:=kh (xs:=[V.int 0,V.int 0,V.int a2]) v0' (by simpa using v1')
  obtain ⟨fi,rfl⟩:∃a:Int,x=.int a:=by
   simp only[aG,a8,or_false] at mx;rcases mx with rfl | rfl | rfl
   ·exact ⟨_,rfl⟩
   ·exact ⟨_,rfl⟩
   ·exact ⟨_,rfl⟩
  exists cA (bU.of gb) ex ?_;have u8b:=(u9.same sa).trans ub;have Gb:=G8.upto u8b B8 mb hB.at;have GPb:=GP.upto u8b B8 pb hB.at;have u0b:=u08.trans u8b;clear ex mx gb ga G8 GP u9 ub;exists ⟨by lia,by lia,?_⟩;refine gD (n:=n) (cB K) (λ(j:Nat)=>(((if decide ((j:Int)=fi)=true then 1 else 0:Int)):Rat)) (by lia) (λa b=>a.same b) ?_ ?_
  ·rintro j Hz NY2 NN2 hj sz k2;exists cF λt Hy sy gy=>?_
   exact k2 _ _ sy (cB.mk gy rfl)
  rintro ysc Hc qc hqc sc gc prc _;have Rc:dI K Hc qc _:=⟨ysc,gc,prc⟩;exists c6 λpd Hd sd nd gd=>?_
  have sbd:=sc.trans sd;have qcd:qc≠pd:=λz=>by rw[z,nd] at gc;cases gc
  have npd:H pd=none:=u0b.none Bb (sc.none nd);have nqc:H qc=none:=u0b.none Bb hqc
  have GL:bo K H Hd pd [(List.range n).map λ(j:Nat)=>(((if decide ((j:Int)=fi)=true then 1 else 0:Int)):Rat)]:=⟨_,gd,.cons ⟨qc,rfl,nqc,Rc.same sd⟩ .nil,λz=>by
   rw[cb] at z;cases z;exact qcd rfl⟩
  exists cF λr He se ge=>?_
  have sbe:=sbd.trans se;refine k r mv _ _ He ⟨mm,p8,pd,ge,hm,np8,npd,Gb.same sbe,GPb.same sbe,GL.same se⟩ lmv rfl rfl ⟨by lia,by simp,by simp,λxs hx=>by rw[(hmv xs hx).1,lmv],λxs hx=>?_,λxs hx=>?_⟩ (λxs hx=>(hmv xs hx).2) (λxs hx=>?_) (λxs hx=>?_) (Bb.same sbe) (u0b.same sbe)
  ·rw[cb.mp hx,ag,bX,lmv]
  ·rw[cb.mp hx,ag,bX,lmv]
  ·rw[cb.mp hx];exact bit
  ·rw[cb.mp hx];exact bit
theorem mS:aV ["_law_top","_law_bottom","_law_one","_law_other"] ["_law_top","_law_bottom"] (aI uJ):=by walk_at "d"
theorem fP (T:Txt K mg Z):cK P w K mg base fu 1 Z.BF Z.Bm ["_law_top","_law_bottom"] PB:=by
 refine T.eE.F.ok mS (λvs H Q E h=>?_) (λcdv A outer s H vs Q E hr h=>?_)
 ·obtain ⟨t,b,rfl,_⟩:=h;rfl
 ·obtain ⟨t,b,rfl,hb,hs,k⟩:=h
  refine ⟨_,(ax (aZ (i:=2) mS.nd rfl (Or.inl rfl) (bK wH (by rfl) T.abs PyProof.Rows.boot_abs (ae (pv 0) ak)))
   (ax (aZ (i:=3) mS.nd rfl (Or.inl rfl) (pv 1))
   (ax (AB PassesOwn.never (bF vG (pv 2) au (bS _))
    (aB (Lr (i:=2) (j:=3) rfl mS.nd rfl rfl (by decide) rfl rfl (ae (bT nN (pv 3) (pv 2)) (ae (pv 2) ak)) rfl)))
   (aB (aW (dg (ae (bT iw (pv 0) (pv 3)) (ae (bT iw (pv 1) (pv 3)) ak)))))))),?_⟩
  refine aP (σ:=[some (.int t),some (.int b),none,none]) rfl ?_;walk_at "w"
  refine DI (λσ' H'=>∃(u v:Int),σ'=[some (.int t),some (.int b),some (.int u),some (.int v)]/\H'=H/\0<=u/\0 < v/\Int.gcd u v=Int.gcd t b) (λσ' _=>match σ' with | [_,_,some (.int u),_]=>u.natAbs | _=>0) ⟨_,b,rfl,rfl,by split <;> lia,hb,by
   split
   ·rw[Int.neg_gcd]
   ·rfl⟩ ?_
  rintro σ' H' ⟨u,v,rfl,rfl,hu,hv,hg⟩;exists gZ (λh=>?_) (λh=>?_)
  ·have hu0:u≠0:=λz=>by subst z;simp at h
   exists fF (show (0:Int) < u by lia) ?_;walk_at "w";have h1:=lH v hu0;have h2:=iF v (show 0 < u by lia);exact ⟨⟨v % u,u,rfl,rfl,h1,by lia,by rw[kb,Mj,kb];exact hg⟩,by show (v % u).natAbs < u.natAbs;lia⟩
  ·have hu0:u=0:=by
    by_cases z:u=0
    ·exact z
    ·exfalso;apply h;simp [z]
   subst hu0
   have e:v=g t b:=by
    unfold g;rw[<- hg,Int.gcd_zero_left]
    lia
   have hgs:Sz 8999 v:=hs.le (by
    rw[e];have h1:(g t b).natAbs=Int.gcd t b:=by unfold g;simp
    rw[h1];exact gM (by lia) (by have:=fh (a:=t) (b:=b);exact eF.mpr this |> λz=>by simpa using z))
   exists fF (show oQ _ _ from ⟨by lia,hgs⟩) ?_;exists fF (show oQ _ _ from ⟨by lia,hgs⟩) ?_;exists cF λr H' s' h'=>?_
   rw[cE _ (by lia),cE _ (by lia),e] at h';exact k r H' s' h'
theorem FO:aV ["_law_one","_law_other"] ["_law_one","_law_other"] (aI uH):=by walk_at "d"
theorem mX (T:Txt K mg Z):cK P w K mg base fu 2 Z.BD Z.Bj ["_law_one","_law_other"] (oZ K (λx y=>x+y)):=by
 refine T.iQ.F.ok FO (λvs H Q E h=>?_) (λcdv A outer s H vs Q E hr h=>?_)
 ·obtain ⟨p,q,a,b,c,d,rfl,hp,hq,hb,hd,sa,sb,sc,sd,k⟩:=JD h;rfl
 ·obtain ⟨p,q,a,b,c,d,rfl,hp,hq,hb,hd,sa,sb,sc,sd,k⟩:=JD h;refine ⟨_,(aB (aW (cM (fP T) hr T.eE (ae (bT fJ (bT cZ (aX bY (pv 0) au) (aX bY (pv 1) au)) (bT cZ (aX bY (pv 1) au) (aX bY (pv 0) au))) (ae (bT cZ (aX bY (pv 0) au) (aX bY (pv 1) au)) ak))))),?_⟩;refine aP (σ:=[some (.ref p),some (.ref q)]) rfl ?_;have hbd:0 < b*d:=iC hb hd;have sbd:Sz 8999 (b*d):=(sb.mul sd).mono (by decide);exists fF (show fQ _ _ from .inr ⟨_,_,sa,sd,by decide⟩) ?_;exists fF (show fQ _ _ from .inr ⟨_,_,sc,sb,by decide⟩) ?_;exists fF (show fQ _ _ from .inr ⟨_,_,sb,sd,by decide⟩) ?_;walk_at "w";exists ⟨_,_,rfl,hbd,sbd,k⟩
theorem Ed:aV ["_law_one","_law_other"] ["_law_one","_law_other"] (aI rF):=by walk_at "d"
theorem vJ (T:Txt K mg Z):cK P w K mg base fu 3 Z.zx Z.yX ["_law_one","_law_other"] (Fx K):=by
 refine T.kY.F.ok Ed (λvs H Q E h=>?_) (λcdv A outer s H vs Q E hr h=>?_)
 ·obtain ⟨p,q,xs,ys,rfl,_⟩:=h;rfl
 ·obtain ⟨p,q,xs,ys,rfl,hp,hq,hl,hz,h1,h2,kk⟩:=h;refine ⟨_,(aB (aW (cf ["_law_k"] ["_law_one","_law_other"] [0,1] (cy rfl T.range (ae (bK bc (by rfl) T.len aU (ae (pv 0) ak)) ak)) (λ_=>(aN (i:=0) (show ND9 ["_law_k","_law_one","_law_other"] by decide +kernel))) (λ_=>cm) (λ_=>(cM (mX T) hr T.iQ (ae (aX (gA K (by rfl)) (pv 1) (pv 0)) (ae (aX (gA K (by rfl)) (pv 2) (pv 0)) ak))))))),?_⟩;refine aP (σ:=[some (.ref p),some (.ref q)]) rfl ?_;obtain ⟨us,gu,qu⟩:=id hp;obtain ⟨ws,gw,qw⟩:=id hq;have lu:=qu.length;exists ⟨_,_,rfl,.inl (bU.of gu),?_⟩;exists ⟨by lia,by lia,?_⟩;refine gD (n:=us.length) (cB K) (λi=>xs.getD i 0+ys.getD i 0) (by lia) (λa b=>a.same b) ?_ ?_
  ·rintro i H' NY NN hi s k1;have ix:i < xs.length:=by lia
   have iy:i < ys.length:=by lia
   obtain ⟨vx,ex,nx⟩:=F9 (Paired.imp' (λ_ _ z=>z.same s) qu) ix;obtain ⟨vy,ey,ny⟩:=F9 (Paired.imp' (λ_ _ z=>z.same s) qw) iy;exists cA (bU.of (s _ _ gu)) ex ?_;exists cA (bU.of (s _ _ gw)) ey ?_;exists ⟨_,_,_,_,rfl,nx,ny,h1 _ (getD_mem ix),h2 _ (getD_mem iy),λr3 H3 s3 n3=>k1 _ _ s3 n3⟩
  ·rintro ys' H' l hl' s g pr nx;exact kk l H' hl' s ⟨ys',g,by rw[Cn (by lia)];rw[<- lu] at pr;exact pr⟩
theorem Ec:aV ["_law_one","_law_other"] ["_law_one","_law_other"] (aI rE):=by walk_at "d"
theorem kW (T:Txt K mg Z):cK P w K mg base fu 2 Z.zw Z.yW ["_law_one","_law_other"] (oZ K (λx y=>x*y)):=by
 refine T.ie.F.ok Ec (λvs H Q E h=>?_) (λcdv A outer s H vs Q E hr h=>?_)
 ·obtain ⟨p,q,a,b,c,d,rfl,hp,hq,hb,hd,sa,sb,sc,sd,k⟩:=Jf h;rfl
 ·obtain ⟨p,q,a,b,c,d,rfl,hp,hq,hb,hd,sa,sb,sc,sd,k⟩:=Jf h;refine ⟨_,(aB (aW (cM (fP T) hr T.eE (ae (bT cZ (aX bY (pv 0) au) (aX bY (pv 1) au)) (ae (bT cZ (aX bY (pv 0) au) (aX bY (pv 1) au)) ak))))),?_⟩;refine aP (σ:=[some (.ref p),some (.ref q)]) rfl ?_;have hbd:0 < b*d:=iC hb hd;have sbd:Sz 8999 (b*d):=(sb.mul sd).mono (by decide);exists fF (show fQ _ _ from .inr ⟨_,_,sa,sc,by decide⟩) ?_;exists fF (show fQ _ _ from .inr ⟨_,_,sb,sd,by decide⟩) ?_;walk_at "w";exists ⟨_,_,rfl,hbd,sbd,k⟩
theorem HE:aV ["_law_by_here","_law_row_here"] ["_law_by_here","_law_row_here"] (aI xV):=by walk_at "d"
theorem my (T:Txt K mg Z):cK P w K mg base fu 3 Z.Dy Z.C9 ["_law_by_here","_law_row_here"] (K6 K):=by
 refine T.iI.F.ok HE (λvs H Q E h=>?_) (λcdv A outer s H vs Q E hr h=>?_)
 ·obtain ⟨u,q,c,ys,rfl,_⟩:=h;rfl
 ·obtain ⟨u,q,c,ys,rfl,hc,sc,hq,hz,h2,kk⟩:=h;refine ⟨_,(aB (aW (cf ["_law_one"] ["_law_by_here"] [0] (cp (pv 1)) (λ_=>(aN (i:=0) (show ND9 ["_law_one","_law_by_here"] by decide +kernel))) (λ_=>cm) (λ_=>(cM (kW T) hr T.ie (ae (pv 1) (ae (pv 0) ak))))))),?_⟩;refine aP (σ:=[some u,some (.ref q)]) rfl ?_;obtain ⟨us,gu,qu⟩:=id hq;exists ⟨⟨_,bU.of gu⟩,?_⟩;refine cN (K:=K) (F:=cB K) (cB K) (λy=>c*y) gu qu hz (λa b=>a.same b) (λa b=>a.same b) ?_ ?_
  ·rintro i y x H' NY NN en s hx k;exists ⟨_,_,_,_,rfl,hc.same s,hx,sc,h2 y (ar en),λr H2 s2 h2'=>k _ _ s2 h2'⟩
  ·rintro ys' H' r hr s g pr nx;exact kk r H' hr s ⟨ys',g,pr⟩
theorem dR:aV ["_law_bag_here","_law_move_here","_law_put","_law_look","_law_n","_law_turn","_law_i","_law_j","_law_by_here","_law_less_here","_law_row_here"] ["_law_bag_here","_law_move_here","_law_put","_law_look"] (aI pG):=by walk_at "d"
theorem tO (T:Txt K mg Z):cK P w K mg base fu 4 Z.xi Z.wo ["_law_bag_here","_law_move_here","_law_put","_law_look"] (CC K):=by
 refine T.j5.F.ok dR (λvs H Q E h=>?_) (λcdv A outer s H vs Q E hr h=>?_)
 ·obtain ⟨b,m,p,l,q0,n,WV,μ,A,us,ws,vs,rfl,_⟩:=h;rfl
 ·obtain ⟨b,m,p,l,q0,n,WV,μ,A,us,ws,vs,rfl,MA,X,n8,i4,o4,M0,M1,⟨M,eM⟩,V1,hA,k⟩:=h
  refine ⟨_,(ax (aZ (i:=4) dR.nd rfl (Or.inl rfl) (bK bc (by rfl) T.len aU (ae (pv 1) ak)))
   (ax (dh (PW.pt (mV (bF rW (pv 4) au (bS _)) (ja (bF fI (cM (bx T) hr T.a9 (ae (pv 0) (ae au ak))) au (bS _))))) (aB (aW (dg (ae (pv 1) (ae (pv 2) (ae (pv 3) ak)))))) cu)
   (ax (eL PassesOwn.never rfl (cy rfl T.range (ae (bT fJ au (cM (bx T) hr T.a9 (ae (pv 0) (ae au ak)))) ak)) (aN (i:=5) dR.nd)
    (ax (aZ (i:=6) dR.nd rfl (Or.inl rfl) (cM (bx T) hr T.a9 (ae (pv 0) (ae (pv 4) ak))))
   (ax (aZ (i:=7) dR.nd rfl (Or.inl rfl) (bT nN (bT fJ (bT fJ (pv 6) au) (cM (bx T) hr T.a9 (ae (pv 0) (ae (bT jJ (pv 4) au) ak)))) (pv 4)))
   (ax (aZ (i:=8) dR.nd rfl (Or.inl rfl) (dg (ae (aX bZ (dD (ae au (ae (AI uw au) (ae au (ae (AI uw au) ak))))) (cM (bx T) hr T.a9 (ae (pv 0) (ae au ak)))) (ae au ak))))
   (ax (aZ (i:=9) dR.nd rfl (Or.inl rfl) (dg (ae (bT jJ au (aX bY (pv 8) au)) (ae au ak))))
   (ax (fG (cM (vJ T) hr T.kY (ae (aX bZ (pv 1) (pv 6)) (ae (cM (my T) hr T.iI (ae (pv 8) (ae (aX bZ (pv 1) (pv 7)) ak))) ak))) (gQ (pv 1) (pv 6) set_list))
   (ax (eL PassesOwn.never rfl (cp (bT kC (pv 1) (pv 3))) (aN (i:=10) dR.nd)
    (aB (fG (cM (mX T) hr T.iQ (ae (aX bZ (pv 10) (pv 7)) (ae (cM (kW T) hr T.ie (ae (pv 9) (ae (aX bZ (pv 10) (pv 6)) ak))) ak))) (gQ (pv 10) (pv 7) set_list))))
   (aB (eL PassesOwn.never rfl (cp (pv 2)) (aN (i:=10) dR.nd)
    (aB (fG (cM (mX T) hr T.iQ (ae (aX bZ (pv 10) (pv 6)) (ae (cM (kW T) hr T.ie (ae (pv 8) (ae (aX bZ (pv 10) (pv 7)) ak))) ak))) (gQ (pv 10) (pv 6) set_list))))))))))))
   (aB (aW (dg (ae (pv 1) (ae (pv 2) (ae (pv 3) ak))))))))),?_⟩
  refine aP (σ:=[some (.ref b),some (.ref m),some (.ref p),some (.ref l),none,none,none,none,none,none,none]) rfl ?_;have done:∀r us' H' t,t<=3->H' r=some (.tup [.ref m,.ref p,.ref l])->jv K A H' n (λx=>Fr (μ x) (9^t*WV)) m p l b q0 us' ws vs->ik A b m H H'->Q (.ref r) H':=λr us' H' t ht g x kp=>k r us' H' g (x.weak λ_ _ y h=>h.mono (ay _ (ao (by decide) ht))) kp
  have X0:jv K A H n (λx=>Fr (μ x) (9^0*WV)) m p l b q0 us ws vs:=X.weak λ_ _ y h=>h.mono (by simp)
  clear X k;have gu:=X0.gm;have lu:=X0.lm;exists ⟨_,_,rfl,.inl (bU.of gu),?_⟩;rw[lu];clear gu lu;have kp0:ik A b m H H:=λ_ _ h _ _ _=>h
  exists gZ (λh0=>?_) (λh0=>?_)
  ·exists cF λr H' s' g'=>?_
   exact done r us H' 0 (by decide) g' (X0.same s') (kp0.same s')
  have n2:2<=n:=by
   rcases bV n 2 with z | z
   ·exact absurd (decide_eq_true (show (n:Int) < 2 by lia)) h0
   ·exact z
  exists ⟨b,2,rfl,X0.bag,by decide,by decide,λv H1 v0 v1 B1 u1=>?_⟩;have X1:=X0.upto MA u1 B1;have kp1:=kp0.upto u1;exists gZ (λh1=>?_) (λh1=>?_)
  ·exists cF λr H' s' g'=>?_
   exact done r us H' 0 (by decide) g' (X1.same s') (kp1.same s')
  exists ⟨b,3,rfl,B1,by decide,by decide,λc H2 c0 c1 B2 u2=>?_⟩;have X2:=X1.upto MA u2 B2;have kp2:=kp1.upto u2;clear X0 X1 kp0 kp1 u1 u2 B1;exists ⟨by lia,by lia,?_⟩;refine d5 (n:=(1+c).toNat) (λt σ' H'=>∃(x1 x2 x3 x4 x5 x6:Option V) (us:List V),σ'=[some (.ref b),some (.ref m),some (.ref p),some (.ref l),some (.int n),x1,x2,x3,x4,x5,x6]/\jv K A H' n (λx=>Fr (μ x) (9^t*WV)) m p l b q0 us ws vs/\ik A b m H H') ⟨none,none,none,none,none,none,us,rfl,X2,kp2⟩ ?_ ?_
  ·rintro t σ' H' ht ⟨x1,x2,x3,x4,x5,x6,us,rfl,X,kp⟩;have t3:t<=2:=by lia
   exists ⟨b,n,rfl,X.bag,by lia,by lia,λii Ha i0 i1 Ba ua=>?_⟩;obtain ⟨ii,rfl⟩:=cP i0;have Xa:=X.upto MA ua Ba;have kpa:=kp.upto ua;exists ⟨b,_,rfl,Ba,by lia,by lia,λd Hb d0 d1 Bb ub=>?_⟩;have Xb:=Xa.upto MA ub Bb;have kpb:=kpa.upto ub;exists fF (show (0:Int) < n by lia) ?_;have j0:=lH ((ii:Int)+1+d) (show (n:Int)≠0 by lia);have j1:=iF ((ii:Int)+1+d) (show (0:Int) < n by lia);generalize ((ii:Int)+1+d) % (n:Int)=jj at j0 j1 ⊢;obtain ⟨jj,rfl⟩:=cP j0;exists c6 λl0 Hc sc nc gc=>?_
   exists ⟨b,4,rfl,Bb.same sc,by decide,by decide,λv' Hd v0' v1' Bd ud=>?_⟩;have gd:=ud.other (λz=>Bb.at (by rw[<- z];exact nc)) gc;obtain ⟨x,ex,mx,_⟩:=kh (xs:=[V.int 1,V.int (-1),V.int 2,V.int (-2)]) v0' (by simpa using v1')
   obtain ⟨z,rfl,hz⟩:∃z:Int,x=.int z/\z.natAbs<=2:=by
    simp only[aG,a8,or_false] at mx;rcases mx with rfl | rfl | rfl | rfl
    ·exact ⟨1,rfl,by decide⟩
    ·exact ⟨-1,rfl,by decide⟩
    ·exact ⟨2,rfl,by decide⟩
    ·exact ⟨-2,rfl,by decide⟩
   have Xd:=(Xb.same sc).upto MA ud Bd;have kpd:=(kpb.same sc).upto ud;exists cA (bU.of gd) ex ?_;exists cF λbt He se ge=>?_
   exists cF λlt Hf sf gf=>?_
   have Xf:=(Xd.same se).same sf;have kpf:=(kpd.same se).same sf;have nb:cB K Hf ((z:Int):Rat) (.ref bt):=cB.mk (sf _ _ ge) rfl;have nl:cB K Hf ((0 - z:Int):Rat) (.ref lt):=cB.mk gf rfl;clear X Xa Xb Xd kp kpa kpb kpd ua ub ud sc gc gd ex mx ge gf se sf Ba Bb Bd nc;have gu:=Xf.gm;have lu:=Xf.lm
   have ru:∀x∈us,fw K A Hf n (Fr M (9^t*WV)) x:=λx hx=>by
    have:=Xf.row x (by simp [hx]);rwa [eM x (Xf.apart.1 x hx).1 (Xf.apart.1 x hx).2] at this
   have hM:0 < M/\M<=2^800:=by
    have hx:us[ii]'(by lia)∈us:=aE _;have:=eM _ (Xf.apart.1 _ hx).1 (Xf.apart.1 _ hx).2;rw[<- this];exact ⟨M0 _,M1 _⟩
   have e1:us[ii]?=some (us[ii]'(by lia)):=by simp
   have e2:us[jj]?=some (us[jj]'(by lia)):=by simp
   obtain ⟨q1,z1,qs1,w1,a1,g1,k1,p1,l1,c1⟩:=(ru _ (ar e1)).at;obtain ⟨q2,z2,qs2,w2,a2,g2,k2,p2,l2,c2⟩:=(ru _ (ar e2)).at;rw[w1] at e1;rw[w2] at e2;generalize eW:9^t*WV=W at *
   have W9:9*W<=2^140:=by rw[<- eW];exact NP (by lia) V1 (by decide)
   have sz9M:∀{x:Rat} {U:Nat},U<=9*W->Fr M U x->mQ x:=λhU h=>Jr hM.1 hM.2 (ai hU W9) h
   have sz9:∀{x:Rat} {U:Nat} {v:V},U<=9*W->Fr (μ v) U x->mQ x:=λhU h=>Jr (M0 _) (M1 _) (ai hU W9) h
   exists cA (bU.of gu) (dG e1) ?_;exists cA (bU.of gu) (dG e2) ?_;exists ⟨_,q2,_,qs2,rfl,nb,DQ (by lia),⟨z2,g2,p2⟩,by lia,λy hy=>sz9M (by lia) (c2 y hy),λr1 Hg n1 sg R1=>?_⟩;exists ⟨q1,r1,qs1,_,rfl,⟨z1,sg _ _ g1,Paired.imp' (λ_ _ y=>y.same sg) p1⟩,R1,by rw[ag,l1,l2],by lia,λy hy=>sz9M (by lia) (c1 y hy),λy hy=>?_,λr2 Hh n2' sh R2=>?_⟩
   ·obtain ⟨y',hy',rfl⟩:=aw.mp hy;exact Ae hz (c2 y' hy') hM.1 hM.2 (by lia)
   have sfh:=sg.trans sh
   have new:V.ref r2∉us++vs++ws:=λz=>by
    obtain ⟨q',_,_,e',_,g',_⟩:=((Xf.same sg).row _ z).at;cases e';rw[n2'] at g';cases g'
   have Xh:=(Xf.same sfh).weak (C':=λx y=>(x∈ws->Fr (μ x) W y)/\Fr (μ x) (3*W) y) λx _ y h=>⟨λ_=>h,h.mono (by lia)⟩
   have kph:=kpf.same sfh;have guh:=sfh _ _ gu;have ar2:A r2:=(kpf.same sg).new hA (Xf.same sg).bag (by rw[sg _ _ gu];simp) n2'
   have rp2:fw K A Hh n (λy=>(V.ref r2∈ws->Fr (μ (.ref r2)) W y)/\Fr (μ (.ref r2)) (3*W) y) (.ref r2):=by
    rw[eM (.ref r2) (λz=>new (az.mpr (.inr z))) (λz=>new (az.mpr (.inl (az.mpr (.inr z)))))];refine ⟨r2,_,rfl,ar2,R2,by rw[cJ,ag];lia,λy hy=>⟨λz=>absurd (az.mpr (.inr z)) new,?_⟩⟩;obtain ⟨j',hj',e⟩:=aK hy;rw[jz,zK] at e;rw[<- e];exact ES hz (c1 _ (aE _)) (c2 _ (aE _))
   exists eX guh (fz (by lia)) rfl ?_;have Xi:=Xh.set MA rp2 new ii;have kpi:=kph.upd (o:=.lst (us.set ii (.ref r2))) (q:=m) (.inr rfl);have nli:cB K (upd Hh m (.lst (us.set ii (.ref r2)))) ((0 - z:Int):Rat) (.ref lt):=(nl.same sfh).updL guh;have nbi:cB K (upd Hh m (.lst (us.set ii (.ref r2)))) ((z:Int):Rat) (.ref bt):=(nb.same sfh).updL guh;generalize upd Hh m (.lst (us.set ii (.ref r2)))=Hi at Xi kpi nli nbi ⊢;generalize us.set ii (.ref r2)=um at Xi;clear nb nl Xf kpf gu ru e1 e2 g1 p1 g2 p2 R1 R2 Xh kph guh rp2 sg sh sfh new;have gm:=Xi.gm;have lm:=Xi.lm;have gl:=Xi.gl;have nd:=Xi.nd;obtain ⟨nd1,nd2,nd3⟩:=dE.mp nd;exists kz gm gl (aT (bO (by lia))) λcl Hj sj nj gj=>?_
   have kpj:=kpi.same sj
   have rows:∀x∈um++vs,∀q,x=V.ref q->q≠cl:=λx hx q e y=>by
    obtain ⟨q',zs,_,e',_,g',_⟩:=(Xi.row x (az.mpr (.inl hx))).at;rw[e] at e';cases e';rw[y,nj] at g';cases g'
   have Xj:=(Xi.same sj).weak (C':=λx y=>(x∈ws->Fr (μ x) W y)/\(x∈(um++vs).drop 0->Fr (μ x) (3*W) y)/\Fr (μ x) (9*W) y) λx _ y h=>⟨h.1,λ_=>h.2,h.2.mono (by lia)⟩
   have lj:cB K Hj ((0 - z:Int):Rat) (.ref lt):=nli.same sj;have bj:cB K Hj ((z:Int):Rat) (.ref bt):=nbi.same sj;clear Xi kpi nli nbi;refine ⟨_,rfl,⟨_,bU.of gj⟩,?_⟩;refine mJ (K:=K) (a:=cl) (xs:=um++vs) (λs σ' H'=>∃x6:Option V,σ'=[some (.ref b),some (.ref m),some (.ref p),some (.ref l),some (.int n),some (.int t),some (.int ii),some (.int jj),some (.ref bt),some (.ref lt),x6]/\jv K A H' n (λx y=>(x∈ws->Fr (μ x) W y)/\(x∈(um++vs).drop s->Fr (μ x) (3*W) y)/\Fr (μ x) (9*W) y) m p l b q0 um ws vs/\ik A b m H H'/\H' cl=some (.lst (um++vs))/\cB K H' ((0 - z:Int):Rat) (.ref lt)/\cB K H' ((z:Int):Rat) (.ref bt)) ⟨_,rfl,Xj,kpj,gj,lj,bj⟩ (λs σ' H' _ ⟨_,_,_,_,e,_⟩=>bU.of e) ?_ ?_
   ·rintro s x σ' Hk hx ⟨y6,rfl,Xk,kpk,gk,lk,bk⟩;have hs:s < (um++vs).length:=(aF.mp hx).1;have mx:=ar hx
    have xd:x∈(um++vs).drop s:=by
     rw[eB hs,(aF.mp hx).2];exact .head _
    have xd2:x∉(um++vs).drop (s+1):=λz=>by
     have:=nd1.sublist (List.drop_sublist s _);rw[eB hs,d9,(aF.mp hx).2] at this;exact this.1 z
    have xw:x∉ws:=λz=>nd3 x mx x z rfl
    have rx:=Xk.row x (az.mpr (.inl mx));obtain ⟨q,zs,qs,rfl,aq,gq,lq,pq,lq2,cq⟩:=rx.at;have qcl:=rows _ mx q rfl;obtain ⟨vj,ej,nj'⟩:=F9 pq (j:=jj) (by lia);obtain ⟨vi,ei,ni'⟩:=F9 pq (j:=ii) (by lia);have cj:=(cq _ (getD_mem (xs:=qs) (i:=jj) (by lia))).2.1 xd;have ci:=(cq _ (getD_mem (xs:=qs) (i:=ii) (by lia))).2.1 xd;exists cA (bU.of gq) ej ?_;exists cA (bU.of gq) ei ?_;exists ⟨_,_,_,_,rfl,lk,ni',DQ (by lia),sz9 (by lia) ci,λr3 Hl sl n3=>?_⟩;exists ⟨_,_,_,_,rfl,nj'.same sl,n3,sz9 (by lia) cj,Ae (by lia) ci (M0 _) (M1 _) (by lia),λr4 Hm sm n4=>?_⟩;have slm:=sl.trans sm;exists eX (slm _ _ gq) (fz (by lia)) rfl ?_;refine ⟨_,rfl,?_,(kpk.same slm).upd (.inl aq),by rw[bN qcl.symm];exact slm _ _ gk,(lk.same slm).updL (slm _ _ gq),(bk.same slm).updL (slm _ _ gq)⟩;refine ((Xk.same slm).weak λx' _ y h=>⟨h.1,λz=>h.2.1 ?_,h.2.2⟩).put MA aq (slm _ _ gq) n4 ⟨λz=>absurd z xw,λz=>absurd z xd2,?_⟩ jj
    ·rw[eB hs];exact .tail _ z
    ·exact (ES (by lia) cj ci).mono (by lia)
   ·rintro σ' Hk ⟨y6,rfl,Xk,kpk,gk,lk,bk⟩;have gp:=Xk.gp;have Xk2:=Xk.weak (C':=λx y=>(x∈ws.drop 0->Fr (μ x) W y)/\Fr (μ x) (9*W) y) λx _ y h=>⟨λz=>h.1 (by simpa using z),h.2.2⟩
    clear Xk;exists ⟨⟨_,bU.of gp⟩,?_⟩;refine mJ (K:=K) (a:=p) (xs:=ws) (λs σ' H'=>∃x6:Option V,σ'=[some (.ref b),some (.ref m),some (.ref p),some (.ref l),some (.int n),some (.int t),some (.int ii),some (.int jj),some (.ref bt),some (.ref lt),x6]/\jv K A H' n (λx y=>(x∈ws.drop s->Fr (μ x) W y)/\Fr (μ x) (9*W) y) m p l b q0 um ws vs/\ik A b m H H'/\cB K H' ((z:Int):Rat) (.ref bt)) ⟨_,rfl,Xk2,kpk,bk⟩ (λs σ' H' _ ⟨_,_,X,_⟩=>bU.of X.gp) ?_ ?_
    ·rintro s x σ' Hl hx ⟨w6,rfl,Xl,kpl,bl⟩;have hs:s < ws.length:=(aF.mp hx).1;have mx:=ar hx
     have xd:x∈ws.drop s:=by
      rw[eB hs,(aF.mp hx).2];exact .head _
     have xd2:x∉ws.drop (s+1):=λz=>by
      have:=nd2.sublist (List.drop_sublist s _);rw[eB hs,d9,(aF.mp hx).2] at this;exact this.1 z
     have rx:=Xl.row x (az.mpr (.inr mx));obtain ⟨q,zs,qs,rfl,aq,gq,lq,pq,lq2,cq⟩:=rx.at;obtain ⟨vj,ej,nj'⟩:=F9 pq (j:=jj) (by lia);obtain ⟨vi,ei,ni'⟩:=F9 pq (j:=ii) (by lia);have cj:=(cq _ (getD_mem (xs:=qs) (i:=jj) (by lia))).1 xd;have ci:=(cq _ (getD_mem (xs:=qs) (i:=ii) (by lia))).1 xd;exists cA (bU.of gq) ei ?_;exists cA (bU.of gq) ej ?_;exists ⟨_,_,_,_,rfl,bl,nj',DQ (by lia),sz9 (by lia) cj,λr3 Hm sm n3=>?_⟩;exists ⟨_,_,_,_,rfl,ni'.same sm,n3,sz9 (by lia) ci,Ae (by lia) cj (M0 _) (M1 _) (by lia),λr4 Hn sn n4=>?_⟩;have smn:=sm.trans sn;exists eX (smn _ _ gq) (fz (by lia)) rfl ?_;refine ⟨_,rfl,?_,(kpl.same smn).upd (.inl aq),(bl.same smn).updL (smn _ _ gq)⟩;refine ((Xl.same smn).weak λx' _ y h=>⟨λz=>h.1 ?_,h.2⟩).put MA aq (smn _ _ gq) n4 ⟨λz=>absurd z xd2,?_⟩ ii
     ·rw[eB hs];exact .tail _ z
     ·exact (ES (by lia) ci cj).mono (by lia)
    ·rintro σ' Hl ⟨w6,rfl,Xl,kpl,bl⟩;refine ⟨_,_,_,_,_,_,um,rfl,Xl.weak λ_ _ y h=>h.2.mono ?_,kpl⟩;rw[<- eW,gI,cw (9^t) 9,b8];exact aj _
  ·rintro σ' H' ⟨x1,x2,x3,x4,x5,x6,us',rfl,X,kp⟩;exists cF λr H2' s' g'=>?_
   exact done r us' H2' _ (by lia) g' (X.same s') (kp.same s')
theorem dC:aV ["_law_bag_here","_law_one","_law_other","_law_ahead","_law_behind","_law_found","_law_k"] ["_law_bag_here"] (aI jC):=by walk_at "d"
theorem vI (T:Txt K mg Z):cK P w K mg base fu 5 Z.oM Z.oE ["_law_bag_here"] (Na K):=by
 refine T.jh.F.ok dC (λvs H Q E h=>?_) (λcdv A outer s H vs Q E hr h=>?_)
 ·obtain ⟨b,rfl,_⟩:=h;rfl
 ·obtain ⟨b,rfl,hB,k⟩:=h
  refine ⟨_,(ax (aZ (i:=1) dC.nd rfl (Or.inl rfl) (cM (pO T) hr T.ji (ae (pv 0) (ae au ak))))
   (ax (aZ (i:=2) dC.nd rfl (Or.inl rfl) (cM (pO T) hr T.ji (ae (pv 0) (ae (bT fJ au (cM (bx T) hr T.a9 (ae (pv 0) (ae au ak)))) ak))))
   (ax (aZ (i:=3) dC.nd rfl (Or.inr rfl) (bT Lx (dD (ae (dg (ae au (ae au ak))) ak)) au))
   (ax (aZ (i:=4) dC.nd rfl (Or.inr rfl) (bT Lx (dD (ae (dg (ae au (ae au ak))) ak)) (bK bc (by rfl) T.len aU (ae (aX bY (pv 2) au) ak))))
   (ax (aZ (i:=5) dC.nd rfl (Or.inl rfl) (dD ak))
   (ax (eL PassesOwn.never rfl (cy rfl T.range (ae au ak)) (aN (i:=6) dC.nd)
    (aB (kS (AJ dM eP eO lV (pv 5) (ae (bT kC (cf ["_law_row_here"] ["_law_behind"] [4] (cp (aX bY (pv 1) (pv 6))) (λ_=>(aN (i:=0) (show ND9 ["_law_row_here","_law_behind"] by decide +kernel))) (λ_=>cm) (λ_=>(bT kC (pv 0) (pv 1)))) (cf ["_law_row_here"] ["_law_ahead"] [3] (cp (aX bY (pv 2) (pv 6))) (λ_=>(aN (i:=0) (show ND9 ["_law_row_here","_law_ahead"] by decide +kernel))) (λ_=>cm) (λ_=>(bT kC (pv 1) (pv 0))))) ak)))))
   (aB (aW (cM (tO T) hr T.j5 (ae (pv 0) (ae (aX bZ (pv 5) au) (ae (aX bZ (pv 5) au) (ae (aX bZ (pv 5) au) ak))))))))))))),?_⟩
  refine aP (σ:=[some (.ref b),none,none,none,none,none,none]) rfl ?_;obtain ⟨q0,I0,xq,gq0⟩:=hB.inner;exists ⟨b,3,rfl,hB,by decide,by decide,λr1 mv1 pt1 lk1 H1 P1 lm1 lp1 ll1 D1 fm1 fp1 fl1 B1 u1=>?_⟩;exists ⟨b,3,rfl,B1,by decide,by decide,λv H2 v0 v1 B2 u2=>?_⟩;obtain ⟨v,rfl⟩:=cP v0;have u02:=u1.trans u2;walk_at "w";rw[show ((3:Int)+(v:Int))=((3+v:Nat):Int) by lia];refine ⟨b,3+v,rfl,B2,by lia,by lia,λr2 mv2 pt2 lk2 H3 P2 lm2 lp2 ll2 D2 fm2 fp2 fl2 B3 u3=>?_⟩;have u03:=u02.trans u3;have P1c:=(P1.upto (u2.trans u3) B1 hB.at);have P2c:eo K H H3 r2 mv2 pt2 lk2:=P2.weak λq h=>u02.none B2 h
  exists cF λt0 H4 s4 g4=>?_
  exists c6 λa1 H5 s5 n5 g5=>?_
  exists Lj (k:=3) g5 (by decide) λah H6 s6 n6 g6=>?_
  have s36:=(s4.trans s5).trans s6;obtain ⟨m1,p1,l1,gt1,m1n,p1n,l1n,Gm1,Gp1,Gl1⟩:=P1c.same s36;obtain ⟨m2,p2,l2,gt2,m2n,p2n,l2n,Gm2,Gp2,Gl2⟩:=P2c.same s36;have N0:cB K H6 0 (V.ref t0):=cB.mk (q:=0) ((s5.trans s6) _ _ g4) rfl;exists cF λt1 H7 s7 g7=>?_
  exists c6 λa2 H8 s8 n8' g8=>?_
  have s68:=s7.trans s8;have gt2':=s68 _ _ gt2;obtain ⟨um2,gm2,qm2,_⟩:=id (Gm2.same s68);have lum2:=qm2.length;exists ⟨_,_,rfl,.inl (bU.of gm2),?_⟩;rw[<- lum2,lm2];exists Lj (k:=3+v) g8 (by lia) λbh H9 s9 n9 g9=>?_
  have s69:=s68.trans s9;have s39:=s36.trans s69;have N1:cB K H9 0 (V.ref t1):=cB.mk (q:=0) ((s8.trans s9) _ _ g7) rfl;have u09:=u03.same s39;have B9:=B3.same s39;have g6':=s69 _ _ g6;have N0':=N0.same s69;exists c6 λfd H10 s10 n10 g10=>?_
  have X1:∀i:Nat,i < 3->∃q1 R1 q2 R2,[V.ref m1,V.ref p1,V.ref l1][i]?=some (V.ref q1)/\bo K H H9 q1 R1/\(∀xs∈R1,xs.length=3/\∀y∈xs,Fr 1 1 y)/\[V.ref m2,V.ref p2,V.ref l2][i]?=some (V.ref q2)/\bo K H H9 q2 R2/\(∀xs∈R2,xs.length=3+v/\∀y∈xs,Fr 1 1 y)/\R1.length<=100/\R2.length<=100/\[6+v,2,2][i]?=some (R1.length+R2.length):=λi hi=>by
   rcases (show i=0\/i=1\/i=2 by lia) with rfl | rfl | rfl
   ·exact ⟨m1,mv1,m2,mv2,rfl,Gm1.same s69,λxs hx=>⟨by rw[D1.mw xs hx,lm1],fm1 xs hx⟩,rfl,Gm2.same s69,λxs hx=>⟨by rw[D2.mw xs hx,lm2],fm2 xs hx⟩,by lia,by lia,by rw[lm1,lm2,show 3+(3+v)=6+v by lia];rfl⟩
   ·exact ⟨p1,pt1,p2,pt2,rfl,Gp1.same s69,λxs hx=>⟨by rw[D1.pw xs hx,lm1],fp1 xs hx⟩,rfl,Gp2.same s69,λxs hx=>⟨by rw[D2.pw xs hx,lm2],fp2 xs hx⟩,by lia,by lia,by rw[lp1,lp2];rfl⟩
   ·exact ⟨l1,lk1,l2,lk2,rfl,Gl1.same s69,λxs hx=>⟨by rw[D1.lw xs hx,lm1],fl1 xs hx⟩,rfl,Gl2.same s69,λxs hx=>⟨by rw[D2.lw xs hx,lm2],fl2 xs hx⟩,by lia,by lia,by rw[ll1,ll2];rfl⟩
  exists ⟨by decide,by decide,?_⟩;refine d5 (n:=3) (λi σ' H'=>aH H9 H'/\∃x6 L,σ'=[some (.ref b),some (.ref r1),some (.ref r2),some (.ref ah),some (.ref bh),some (.ref fd),x6]/\S6 K H9 H' (6+v) fd L/\L.length=i/\∀(j:Nat) (e:Addr×List V),L[j]?=some e->[6+v,2,2][j]?=some e.2.length) ⟨s10,none,[],rfl,⟨g10,n10,(λ_ z=>nomatch z),nA,(λ_ z=>nomatch z),nA⟩,rfl,λj e h=>by simp at h⟩ ?_ ?_
  ·rintro i σ' H' hi ⟨s',x6,L,rfl,T,lL,hL⟩;obtain ⟨q1,R1,q2,R2,e1,G1,w1,e2,G2,w2,b1,b2,hlen⟩:=X1 i hi;have gt1':=s' _ _ (s69 _ _ gt1);have gt2'':=s' _ _ (s69 _ _ gt2);obtain ⟨ux1,gx1,qx1,_⟩:=id (G1.same s');have gb:=s' _ _ g9;have ga:=s' _ _ g6';exists ⟨.inl ⟨rfl,_,bU.of T.gf⟩,?_⟩;exists HI (mP.of gt1') (dG e1) ?_;exists ⟨⟨_,bU.of gx1⟩,?_⟩;refine Dc (K:=K) (F:=cI K H) (λH'' c x=>∃q,x=V.ref q/\dI K H'' q c) (λr=>r++List.replicate (3+v) 0) gx1 qx1 (by lia) (λa b=>a.same b) (λa b=>by obtain ⟨q,e,r⟩:=a;exact ⟨q,e,r.same b⟩) (λa=>by obtain ⟨q,e,_,gg,_⟩:=a;exact ⟨q,e,by rw[gg];exact λz=>nomatch z⟩) ?_ ?_
   ·rintro j ns x Hi NY NN en si ⟨q,rfl,_,zs,gz,qz⟩ k1;have ws:=(w1 ns (ar en)).1;have lz:=qz.length;exists kz gz (si _ _ gb) (aT (bO (by rw[bw];lia))) λc Hj sj nj gj=>?_
    exact k1 _ _ sj ⟨c,rfl,_,gj,cg (Paired.imp' (λ_ _ z=>z.same sj) qz) (uN (((N1.same s').same si).same sj) _)⟩ ⟨c,rfl,nj⟩
   rintro ys1 Ha c1 hc1 sa ga1 nd1 ne1 pr1;obtain ⟨ux2,gx2,qx2,_⟩:=id ((G2.same s').same sa);have gt2a:=sa _ _ gt2'';exists HI (mP.of gt2a) (dG e2) ?_;exists ⟨⟨_,bU.of gx2⟩,?_⟩;refine Dc (K:=K) (F:=cI K H) (λH'' c x=>∃q,x=V.ref q/\dI K H'' q c) (λr=>List.replicate 3 0++r) gx2 qx2 (by lia) (λa b=>a.same b) (λa b=>by obtain ⟨q,e,r⟩:=a;exact ⟨q,e,r.same b⟩) (λa=>by obtain ⟨q,e,_,gg,_⟩:=a;exact ⟨q,e,by rw[gg];exact λz=>nomatch z⟩) ?_ ?_
   ·rintro j ns x Hi NY NN en si ⟨q,rfl,_,zs,gz,qz⟩ k1;have ws:=(w2 ns (ar en)).1;have lz:=qz.length;exists kz ((sa.trans si) _ _ ga) gz (aT (bO (by rw[bw];lia))) λc Hj sj nj gj=>?_
    exact k1 _ _ sj ⟨c,rfl,_,gj,cg (uN ((((N0'.same s').same sa).same si).same sj) _) (Paired.imp' (λ_ _ z=>z.same sj) qz)⟩ ⟨c,rfl,nj⟩
   rintro ys2 Hb c2 hc2 sb gb2 nd2 ne2 pr2;have sab:=sa.trans sb;have ly1:=pr1.length;have ly2:=pr2.length;rw[ag] at ly1 ly2;exists kz (sb _ _ ga1) gb2 (aT (bO (by lia))) λqn Hc sc nc gc=>?_
   have sac:=sab.trans sc;have gfc:=sac _ _ T.gf;exists lQ gfc (bO (by rw[ag];lia)) ?_
   have rP:∀{c:List Rat} {x:V},(∃q,x=V.ref q/\dI K Hb q c)->(∃q,x=V.ref q/\H' q=none)->c.length=6+v->(∀y∈c,Fr 1 1 y)->fw K (λz=>H' z=none/\z≠qn) Hc (6+v) (Fr 1 1) x:=λ⟨q,e,r⟩ ⟨q',e',nq⟩ hl hf=>by
    rw[e] at e';cases e';exact ⟨q,_,e,⟨nq,λz=>by obtain ⟨_,gg,_⟩:=r;rw[z,nc] at gg;cases gg⟩,r.same sc,hl,hf⟩
   refine ⟨(s'.trans sac).after n10,some (.int i),L++[(qn,ys1++ys2)],rfl,T.snoc s' sac (sab.none nc) gc ?_ (λx hx=>?_),by rw[av,bH,lL],λj e he=>?_⟩
   ·refine dE.mpr ⟨nd1,nd2,λx hx y hy z=>?_⟩;obtain ⟨_,_,q,e,_,gg,_⟩:=dd pr1 hx;obtain ⟨q',e',nq,_⟩:=ne2 y hy;rw[<- z,e] at e';cases e';rw[nq] at gg;cases gg
   ·rcases az.mp hx with hx | hx
    ·obtain ⟨c,mc,q,e,r⟩:=dd pr1 hx;obtain ⟨ns,mn,rfl⟩:=aw.mp mc;obtain ⟨q',e',nq,_⟩:=ne1 x hx;refine rP ⟨q,e,r.same sb⟩ ⟨q',e',nq⟩ (by rw[av,bw,(w1 ns mn).1];lia) λy hy=>?_
     rcases az.mp hy with hy | hy
     ·exact (w1 ns mn).2 y hy
     ·rw[(List.mem_replicate.mp hy).2];exact Fr.zero
    ·obtain ⟨c,mc,q,e,r⟩:=dd pr2 hx;obtain ⟨ns,mn,rfl⟩:=aw.mp mc;obtain ⟨q',e',nq,_⟩:=ne2 x hx;refine rP ⟨q,e,r⟩ ⟨q',e',sa.none nq⟩ (by rw[av,bw,(w2 ns mn).1];lia) λy hy=>?_
     rcases az.mp hy with hy | hy
     ·rw[(List.mem_replicate.mp hy).2];exact Fr.zero
     ·exact (w2 ns mn).2 y hy
   ·rcases bV j L.length with z | z
    ·rw[cx z] at he;exact hL j e he
    ·have hj:=(aF.mp he).1;rw[av,bH] at hj;have ej:j=L.length:=by lia
     subst ej;rw[bW (aj _),nh] at he;cases he;rw[lL,hlen,av,ly1,ly2]
  ·rintro σ' H' ⟨s',x6,L,rfl,T,lL,hL⟩
   obtain ⟨⟨m,us⟩,⟨p,ws⟩,⟨l,vs⟩,rfl⟩:∃a b c,L=[a,b,c]:=by
    rcases L with _ | ⟨a,_ | ⟨b,_ | ⟨c,_ | ⟨d,L⟩⟩⟩⟩
    ·cases lL
    ·cases lL
    ·cases lL
    ·exact ⟨a,b,c,rfl⟩
    ·simp at lL
   have lu:us.length=6+v:=by have:=hL 0 _ rfl;simpa using this.symm
   have lw:ws.length=2:=by have:=hL 1 _ rfl;simpa using this.symm
   have lv:vs.length=2:=by have:=hL 2 _ rfl;simpa using this.symm
   have gf:=T.gf;obtain ⟨mn,mf,gm⟩:=T.ls (m,us) (by simp);obtain ⟨pn,pf,gp⟩:=T.ls (p,ws) (by simp);obtain ⟨ln,lf,gl⟩:=T.ls (l,vs) (by simp);have nd:=T.nd;have rw':=T.rows;have rd:=T.rd;clear T hL;have gf:H' fd=some (.lst [.ref m,.ref p,.ref l]):=gf;have nd:[m,p,l].Nodup:=nd;have rd:(us++(ws++(vs++[]))).Nodup:=rd;have u0':=u09.same s';have B':=B9.same s';have hm0:H m=none:=u09.none B9 mn;have hp0:H p=none:=u09.none B9 pn;have hl0:H l=none:=u09.none B9 ln;obtain ⟨A,eA⟩:∃A:Addr->Prop,A=λq=>H q=none/\q≠m/\q≠p/\q≠l:=⟨_,rfl⟩
   have mkA:∀{q},H q=none->q≠m->q≠p->q≠l->A q:=λh1 h2 h3 h4=>by rw[eA];exact ⟨h1,h2,h3,h4⟩
   have unA:∀{q},A q->H q=none/\q≠m/\q≠p/\q≠l:=λh=>by rw[eA] at h;exact h
   have nb:∀{q},H q=none->q≠b:=λh z=>hB.at (by rw[<- z];exact h)
   have MA:GQ A m p l b q0:=⟨λz=>(unA z).2.1 rfl,λz=>(unA z).2.2.1 rfl,λz=>(unA z).2.2.2 rfl,λz=>hB.at (unA z).1,(λz=>by have z1:=(unA z).1;rw[gq0] at z1;cases z1),nb hm0,nb hp0,nb hl0,by intro z;subst z;simp at nd,by intro z;subst z;simp at nd,λz=>by rw[<- z,hm0] at gq0;cases gq0⟩;have X:jv K A H' (6+v) (λ_=>Fr 1 1) m p l b q0 us ws vs:=⟨B',u0'.2 _ I0,gm,gp,gl,lu,λx hx=>?_,?_⟩
   ·exists ⟨b,m,p,l,q0,6+v,1,λ_=>1,A,us,ws,vs,rfl,MA,X,by lia,by lia,by lia,λ_=>Nat.zero_lt_one,λ_=>bI,⟨1,λ_ _ _=>rfl⟩,by decide,λq hq=>?_,λr us' H'' g Y kp=>?_⟩
    ·exact mkA (u0'.none B' hq) (λz=>by rw[z,gm] at hq;cases hq) (λz=>by rw[z,gp] at hq;cases hq) (λz=>by rw[z,gl] at hq;cases hq)
    ·obtain ⟨mv,Gm,lmv,hmv⟩:=jP (H0:=H) (n:=6+v) (C:=Fr 1 (9^3*1)) (m:=6+v) ⟨us',Y.gm,Y.lm,MA.am,λx hx=>Y.row x (by simp [hx])⟩ λq h=>(unA h).1
     obtain ⟨pt,Gp,lpt,hpt⟩:=jP (H0:=H) (n:=6+v) (C:=Fr 1 (9^3*1)) (m:=2) ⟨ws,Y.gp,lw,MA.ap,λx hx=>Y.row x (by simp [hx])⟩ λq h=>(unA h).1
     obtain ⟨lk,Gl,llk,hlk⟩:=jP (H0:=H) (n:=6+v) (C:=Fr 1 (9^3*1)) (m:=2) ⟨vs,Y.gl,lv,MA.al,λx hx=>Y.row x (by simp [hx])⟩ λq h=>(unA h).1
     refine k r mv pt lk H'' ⟨m,p,l,g,hm0,hp0,hl0,Gm,Gp,Gl⟩ (by lia) ⟨by lia,by lia,by lia,λxs hx=>by rw[(hmv xs hx).1,lmv],λxs hx=>by rw[(hpt xs hx).1,lmv],λxs hx=>by rw[(hlk xs hx).1,lmv]⟩ (λxs hx=>(hmv xs hx).2) (λxs hx=>(hpt xs hx).2) (λxs hx=>(hlk xs hx).2) Y.bag ⟨λc' u e n1=>kp c' u (u0'.1 _ _ e n1) n1 (λz=>by have:=(unA z).1;rw[e] at this;cases this) (λz=>by rw[z,hm0] at e;cases e),λq h=>by rw[<- Inner.inj I0 h];exact Y.inn⟩
   ·have hx:∃e∈[(m,us),(p,ws),(l,vs)],x∈e.2:=by
     rcases az.mp hx with hx | hx
     ·rcases az.mp hx with hx | hx
      ·exact ⟨(m,us),by simp,hx⟩
      ·exact ⟨(l,vs),by simp,hx⟩
     ·exact ⟨(p,ws),by simp,hx⟩
    obtain ⟨e,he,hx⟩:=hx;refine (rw' e he x hx).weak (λq hq=>?_) (λ_ w=>w);obtain ⟨⟨h1,_⟩,h2⟩:=hq;have h2:q∉[m,p,l]:=h2;simp only[aG,a8,or_false,not_or] at h2;exact mkA (u09.none B9 h1) h2.1 h2.2.1 h2.2.2
   ·rw[qS] at rd
    have e:(us++vs++ws).Perm (us++(ws++vs)):=by
     rw[cz];exact List.Perm.append_left _ List.perm_append_comm
    exact e.nodup_iff.mpr rd
theorem rg:aV ["_law_bag_here","_law_wide","_law_way"] ["_law_bag_here","_law_wide"] (aI nJ):=by walk_at "d"
theorem AS (T:Txt K mg Z):cK P w K mg base fu 2 Z.ui Z.tZ ["_law_bag_here","_law_wide"] (Ak K):=by
 refine T.mG.F.ok rg (λvs H Q E h=>?_) (λcdv A outer s H vs Q E hr h=>?_)
 ·obtain ⟨b,w,rfl,_⟩:=h;rfl
 ·obtain ⟨b,w,rfl,hB,w0,w1,k⟩:=h
  refine ⟨_,(ax (aZ (i:=2) rg.nd rfl (Or.inl rfl) (cM (bx T) hr T.a9 (ae (pv 0) (ae au ak))))
   (ax (dh (bF rW (pv 2) au (bS _)) (aB (aW (dg (ae au (ae au ak))))) cu)
   (ax (dh (bF rW (pv 2) au (bS _)) (aB (aW (dg (ae (bT jJ (cM (bx T) hr T.a9 (ae (pv 0) (ae au ak))) au) (ae au ak))))) cu)
   (ax (dh (bF fI (pv 2) au (bS _)) (aB (aW (cM (fP T) hr T.eE (ae (bT jJ (cM (bx T) hr T.a9 (ae (pv 0) (ae au ak))) au) (ae (bT fJ au (cM (bx T) hr T.a9 (ae (pv 0) (ae au ak)))) ak))))) cu)
   (aB (aW (cM (fP T) hr T.eE (ae (bT jJ (cM (bx T) hr T.a9 (ae (pv 0) (ae (bT fJ (bT cZ au (pv 1)) au) ak))) (pv 1)) (ae (bT fJ au (cM (bx T) hr T.a9 (ae (pv 0) (ae (pv 1) ak)))) ak))))))))),?_⟩
  refine aP (σ:=[some (.ref b),some (.int w),none]) rfl ?_;exists ⟨b,8,rfl,hB,by decide,by decide,λv H1 v0 v1 B1 u1=>?_⟩;exists gZ (λh0=>?_) (λh0=>?_)
  ·exists cF λr H2 s2 g2=>?_
   exact k r 0 _ ⟨bL _,by show 1<=_;lia⟩ (cB.mk g2 rfl) (B1.same s2) (u1.same s2)
  exists gZ (λh1=>?_) (λh1=>?_)
  ·exists ⟨b,7,rfl,B1,by decide,by decide,λa H2 a0 a1 B2 u2=>?_⟩;exists cF λr H3 s3 g3=>?_
   exact k r ((a - 3:Int):Rat) _ ⟨by show (a - 3).natAbs<=_;lia,by show 1<=_;lia⟩ (cB.mk g3 rfl) (B2.same s3) ((u1.trans u2).same s3)
  exists gZ (λh2=>?_) (λh2=>?_)
  ·exists ⟨b,13,rfl,B1,by decide,by decide,λa H2 a0 a1 B2 u2=>?_⟩;exists ⟨b,6,rfl,B2,by decide,by decide,λc H3 c0 c1 B3 u3=>?_⟩;exists ⟨_,_,rfl,by lia,(KW (by lia)).mono (by decide),λr H4 s4 g4=>?_⟩;obtain ⟨q,e,d,_⟩:=LR (t:=a - 6) (b:=1+c) (W:=max w 6) (by lia) (by lia) (by lia);exact k r q _ d (cB.mk g4 e) (B3.same s4) (((u1.trans u2).trans u3).same s4)
  exists ⟨b,_,rfl,B1,by lia,by lia,λa H2 a0 a1 B2 u2=>?_⟩;exists ⟨b,_,rfl,B2,by lia,by lia,λc H3 c0 c1 B3 u3=>?_⟩;exists ⟨_,_,rfl,by lia,(KW (by lia)).mono (by decide),λr H4 s4 g4=>?_⟩;obtain ⟨q,e,d,_⟩:=LR (t:=a - w) (b:=1+c) (W:=max w 6) (by lia) (by lia) (by lia);exact k r q _ d (cB.mk g4 e) (B3.same s4) (((u1.trans u2).trans u3).same s4)
theorem FP:aV ["_law_bag_here","_law_many","_law_wide"] ["_law_bag_here","_law_many","_law_wide"] (aI uI):=by walk_at "d"
theorem rZ (T:Txt K mg Z):cK P w K mg base fu 3 Z.BE Z.Bl ["_law_bag_here","_law_many","_law_wide"] (FH K):=by
 refine T.iS.F.ok FP (λvs H Q E h=>?_) (λcdv A outer s H vs Q E hr h=>?_)
 ·obtain ⟨b,m,w,rfl,_⟩:=h;rfl
 ·obtain ⟨b,m,w,rfl,hB,hm,w0,w1,k⟩:=h;refine ⟨_,(aB (aW (cf ["_law_k"] ["_law_bag_here","_law_wide"] [0,2] (cy rfl T.range (ae (pv 1) ak)) (λ_=>(aN (i:=0) (show ND9 ["_law_k","_law_bag_here","_law_wide"] by decide +kernel))) (λ_=>cm) (λ_=>(cM (AS T) hr T.mG (ae (pv 1) (ae (pv 2) ak))))))),?_⟩;refine aP (σ:=[some (.ref b),some (.int m),some (.int w)]) rfl ?_;exists ⟨by lia,by lia,?_⟩;refine yz (n:=m) (cB K) (Dr (max w 6)) hB hm (λa u B=>a.upto u B) ?_ ?_
  ·rintro i H' NY NN hi u B k1;exists ⟨b,w,rfl,B,w0,w1,λr x H2 hx h2 B2 u2=>k1 _ x _ u2 B2 hx h2⟩
  ·rintro ys cs H' p hp u B g lc hc pr nx;exact k p cs H' hp ⟨ys,g,pr⟩ lc hc B u
theorem i5:aV ["_law_bag_here","_law_n","_law_way","_law_first","_law_wide","_law_move_here","_law_i","_law_row_here","_law_j"] ["_law_bag_here","_law_n","_law_way","_law_first","_law_wide"] (aI rJ):=by walk_at "d"
theorem EB (T:Txt K mg Z):cK P w K mg base fu 4 Z.zA Z.y4 ["_law_bag_here","_law_n","_law_way","_law_first","_law_wide"] (Fz K):=by
 refine T.p4.F.ok i5 (λvs H Q E h=>?_) (λcdv A outer s H vs Q E hr h=>?_)
 ·obtain ⟨b,n,w,way,first,rfl,_⟩:=h;rfl
 ·obtain ⟨b,n,w,way,first,rfl,hB,n8,w0,w1,k⟩:=h
  refine ⟨_,(ax (aZ (i:=5) i5.nd rfl (Or.inl rfl) (dD ak))
   (ax (eL PassesOwn.never rfl (cy rfl T.range (ae (pv 1) ak)) (aN (i:=6) i5.nd)
    (ax (aZ (i:=7) i5.nd rfl (Or.inl rfl) (cM (rZ T) hr T.iS (ae (pv 0) (ae (pv 1) (ae (pv 4) ak)))))
   (ax (eL PassesOwn.never rfl (cy rfl T.range (ae (pv 1) ak)) (aN (i:=8) i5.nd)
    (iN (dh (PW.pt (jF (bF fI (pv 2) au (bS _)) (kR (bF vH (cM (bx T) hr T.a9 (ae (pv 0) (ae au ak))) au (bS _))))) (aB (fG (dg (ae au (ae au ak))) (gQ (pv 7) (pv 8) set_list))) cu)
   (iN (dh (PW.pt (jF (bF fI (pv 2) au (bS _)) (kR (bF rW (bT fJ (pv 6) au) (pv 1) (bS _))))) (aB (fG (dg (ae (fH oH (by rfl) T.int PyProof.Rows.boot_int (ae (jV fI (pv 8) (bT fJ (pv 6) au) (bS _)) ak)) (ae au ak))) (gQ (pv 7) (pv 8) set_list))) cu)
   (iN (dh (PW.pt (mV (PW.pt (jF (bF fI (pv 2) au (bS _)) (jF (bF CM (pv 6) (pv 3) (bS _)) (kR (bF rW (pv 8) (pv 3) (bS _)))))) (ja (PW.pt (jF (bF fI (pv 2) au (bS _)) (jF (bF rW (pv 6) (pv 3) (bS _)) (kR (bF CM (pv 8) (pv 3) (bS _))))))))) (aB (fG (dg (ae au (ae au ak))) (gQ (pv 7) (pv 8) set_list))) cu)
   (aB (dh (bF fI (pv 2) au (bS _)) (aB (fG (dg (ae (bT cZ (aX bZ (dD (ae au (ae au (ae (AI uw au) (ae au ak))))) (bT nN (pv 3) au)) (fH oH (by rfl) T.int PyProof.Rows.boot_int (ae (jV fI (pv 6) (pv 8) (bS _)) ak))) (ae au ak))) (gQ (pv 7) (pv 8) set_list))) cu))))))
   (aB (kS (AJ dM eP eO lV (pv 5) (ae (pv 7) ak)))))))
   (aB (aW (pv 5))))),?_⟩
  refine aP (σ:=[some (.ref b),some (.int n),some (.int way),some (.int first),some (.int w),none,none,none,none]) rfl ?_;have W1:1<=max w 6:=by lia
  exists c6 λr H1 s1 n1 g1=>?_
  have rb:r≠b:=λz=>hB.at (by rw[<- z];exact n1)
  obtain ⟨q0,I0,xs0,gq0⟩:=hB.inner;have I1:Inner H1 b q0:=(s1.upto (p:=b)).2 _ I0;obtain ⟨A,eA⟩:∃A:Addr->Prop,A=λq=>H q=none/\q≠r:=⟨_,rfl⟩
  have nb:¬A b:=by rw[eA];exact λz=>hB.at z.1
  have nr:¬A r:=by rw[eA];exact λz=>z.2 rfl
  have nq:¬A q0:=by rw[eA];exact λz=>by have z1:=z.1;rw[gq0] at z1;cases z1
  have rq:r≠q0:=λz=>by rw[<- z,n1] at gq0;cases gq0
  exists ⟨by lia,by lia,?_⟩;refine d5 (n:=n) (λi σ' H'=>∃(x1 x2 x3:Option V) (us:List V),σ'=[some (.ref b),some (.int n),some (.int way),some (.int first),some (.int w),some (.ref r),x1,x2,x3]/\H' r=some (.lst us)/\us.length=i/\us.Nodup/\(∀x∈us,fw K A H' n (Dr (max w 6)) x)/\ip H' b/\Inner H' b q0/\c5 b H H') ⟨none,none,none,[],rfl,g1,rfl,nA,(λ_ z=>nomatch z),hB.same s1,I1,s1.upto⟩ ?_ ?_
  ·rintro i σ' H' hi ⟨x1,x2,x3,us,rfl,gu,lu,nd,ru,B',I',u'⟩;exists ⟨b,n,w,rfl,B',by lia,w0,w1,λp xs Ha np Ra la da Ba ua=>?_⟩;have hp0:H p=none:=u'.none B' np
   have pn:V.ref p∉us:=λz=>by
    obtain ⟨q',_,_,e',_,g',_⟩:=(ru _ z).at;cases e';rw[np] at g';cases g'
   have ap':H p=none/\p≠r:=⟨hp0,λz=>by rw[z,gu] at np;cases np⟩;have ap:A p:=by rw[eA];exact ap'
   have X0:JL K A n (Dr (max w 6)) r p b q0 us H Ha:=⟨ua.other rb gu,λx hx=>(ru x hx).upto ua B' nb,⟨p,xs,rfl,ap,Ra,la,da⟩,Ba,ua.2 _ I',u'.trans ua⟩;clear ru Ra gu;exists ⟨by lia,by lia,?_⟩;refine d5 (n:=n) (λj σ' H'=>(∃x3,σ'=[some (.ref b),some (.int n),some (.int way),some (.int first),some (.int w),some (.ref r),some (.int i),some (.ref p),x3])/\JL K A n (Dr (max w 6)) r p b q0 us H H') ⟨⟨_,rfl⟩,X0⟩ ?_ ?_
   ·rintro j σ' Hj hj ⟨⟨x3,rfl⟩,X⟩;exists ⟨λσ' H'=>σ'=[some (.ref b),some (.int n),some (.int way),some (.int first),some (.int w),some (.ref r),some (.int i),some (.ref p),some (.int j)]/\JL K A n (Dr (max w 6)) r p b q0 us H H',?_,?_⟩
    ·exists gZ (λ_=>?_) (λ_=>?_)
     ·exists ⟨b,3,rfl,X.bag,by decide,by decide,λd Hd d0 d1 Bd ud=>?_⟩;replace X:=X.upto ud Bd nb rb
      repeat' (first | walk_at "rd" | refine gZ (λ_=>?_) (λ_=>?_))
      all_goals first
       | exact ⟨rfl,X⟩
       | (refine cF λt Hb sb gb=>?_;walk_at "w";obtain ⟨zs,gz,lz,Xz⟩:=(X.same sb).put ap nr nb nq hp0 (cB.mk (q:=0) gb rfl) (sJ (i:=0) (bL _) W1) j;refine eX gz (fz (by lia)) rfl ?_;exact ⟨rfl,Xz⟩)
     ·exists ⟨rfl,X⟩
    clear X;rintro σ' Hj ⟨rfl,X⟩;refine ⟨λσ' H'=>σ'=[some (.ref b),some (.int n),some (.int way),some (.int first),some (.int w),some (.ref r),some (.int i),some (.ref p),some (.int j)]/\JL K A n (Dr (max w 6)) r p b q0 us H H',?_,?_⟩
    ·repeat' (first | walk_at "rd" | refine gZ (λ_=>?_) (λ_=>?_))
     all_goals first
      | exact ⟨rfl,X⟩
      | (refine cF λt Hb sb gb=>?_;walk_at "w";obtain ⟨zs,gz,lz,Xz⟩:=(X.same sb).put ap nr nb nq hp0 (cB.mk (q:=((if decide ((j:Int)=(i:Int)+1)=true then (1:Int) else 0:Int):Rat)) gb rfl) (sJ (by split <;> lia) W1) j;refine eX gz (fz (by lia)) rfl ?_;exact ⟨rfl,Xz⟩)
    clear X;rintro σ' Hj ⟨rfl,X⟩;refine ⟨λσ' H'=>σ'=[some (.ref b),some (.int n),some (.int way),some (.int first),some (.int w),some (.ref r),some (.int i),some (.ref p),some (.int j)]/\JL K A n (Dr (max w 6)) r p b q0 us H H',?_,?_⟩
    ·repeat' (first | walk_at "rd" | refine gZ (λ_=>?_) (λ_=>?_))
     all_goals first
      | exact ⟨rfl,X⟩
      | (refine cF λt Hb sb gb=>?_;walk_at "w";obtain ⟨zs,gz,lz,Xz⟩:=(X.same sb).put ap nr nb nq hp0 (cB.mk (q:=0) gb rfl) (sJ (i:=0) (bL _) W1) j;refine eX gz (fz (by lia)) rfl ?_;exact ⟨rfl,Xz⟩)
    clear X;rintro σ' Hj ⟨rfl,X⟩;exists gZ (λ_=>?_) (λ_=>?_)
    ·exists c6 λl0 Hc sc nc gc=>?_
     walk_at "w";obtain ⟨x,ex,mx,_⟩:=kh (xs:=[V.int 2,V.int 1,V.int (-1),V.int 0]) (i:=first % 4) (lH _ (by decide)) (by have:=iF first (show (0:Int) < 4 by decide);simpa using this)
     obtain ⟨z,rfl,hz⟩:∃z:Int,x=.int z/\z.natAbs<=2:=by
      simp only[aG,a8,or_false] at mx;rcases mx with rfl | rfl | rfl | rfl
      ·exact ⟨2,rfl,by decide⟩
      ·exact ⟨1,rfl,by decide⟩
      ·exact ⟨-1,rfl,by decide⟩
      ·exact ⟨0,rfl,by decide⟩
     refine cA (bU.of gc) ex ?_;exists fF (JB (by lia) (by lia)) ?_;exists cF λt Hb sb gb=>?_
     walk_at "w";obtain ⟨zs,gz,lz,Xz⟩:=((X.same sc).same sb).put ap nr nb nq hp0 (cB.mk (q:=((z*(if decide ((i:Int)=(j:Int))=true then (1:Int) else 0):Int):Rat)) gb rfl) (sJ (by split <;> lia) W1) j;refine eX gz (fz (by lia)) rfl ?_;exact ⟨⟨_,rfl⟩,Xz⟩
    ·exists ⟨⟨_,rfl⟩,X⟩
   ·rintro σ' Hj ⟨⟨x3,rfl⟩,X⟩;exists ⟨.inl ⟨rfl,_,bU.of X.gr⟩,?_⟩;exists lQ X.gr (bO (by lia)) ?_;refine ⟨_,_,_,us++[.ref p],rfl,aM,by simp [lu],pR nd pn,λx hx=>?_,X.bag.upd X.inn rb rq,X.inn.upd rb,X.up.after n1⟩;rcases az.mp hx with hx | hx
    ·exact (X.ru x hx).other X.gr nr
    ·have e:x=V.ref p:=by simpa using hx
     rw[e];exact X.rp.other X.gr nr
  ·rintro σ' H' ⟨x1,x2,x3,us,rfl,gu,lu,nd,ru,B',I',u'⟩;exists k r us H' n1 gu lu nd (by rw[eA] at ru;exact ru) B' u'
theorem dQ:aV ["_law_bag_here","_law_n","_law_ins","_law_outs","_law_wide","_law_way","_law_first","_law_move_here","_law_put","_law_look","_law_k","_law_row_here"] ["_law_bag_here","_law_n","_law_ins","_law_outs","_law_wide"] (aI pF):=by walk_at "d"
theorem Cg (T : Txt K mg Z) : cK P w K mg base fu 5 Z.xh Z.wg ["_law_bag_here", "_law_n", "_law_ins", "_law_outs", "_law_wide"] (Cy K) := by
  have m9 := bx (P := P) (w := w) (base := base) T;have GR := EB (P := P) (w := w) (base := base) T;have BL := rZ (P := P) (w := w) (base := base) T;have Fd := tO (P := P) (w := w) (base := base) T;refine T.nX.F.ok dQ (λvs H Q E h => ?_) (λcdv A outer s H vs Q E hr h => ?_)
  · obtain ⟨b, n, i, o, w, c, rfl, _⟩ := h;rfl
  · obtain ⟨b, n, i, o, w, c, rfl, hB, n8, i4, o4, w0, w1, hc, hc20, hcM, k⟩ := h
    refine ⟨_, (ax (aZ (i := 5) dQ.nd rfl (Or.inl rfl) (cM m9 hr T.a9 (ae (pv 0) (ae au ak))))
      (ax (aZ (i := 6) dQ.nd rfl (Or.inl rfl) (cM m9 hr T.a9 (ae (pv 0) (ae (bT fJ (pv 1) au) ak))))
      (ax (aZ (i := 7) dQ.nd rfl (Or.inl rfl) (cM GR hr T.p4 (ae (pv 0) (ae (pv 1) (ae (pv 5) (ae (pv 6) (ae (pv 4) ak)))))))
      (ax (gG 8 ["_law_k"] ["_law_bag_here", "_law_n", "_law_wide"] [0, 1, 4] dQ.nd rfl rfl (cy rfl T.range (ae (pv 2) ak)) (λ_ => (aN (i := 0) (show List.Nodup (α := PySem.Str) ["_law_k", "_law_bag_here", "_law_n", "_law_wide"] by decide +kernel))) (λ_ => cm) (λ_ => (cM BL hr T.iS (ae (pv 1) (ae (pv 2) (ae (pv 3) ak))))))
      (ax (gG 9 ["_law_k"] ["_law_bag_here", "_law_n", "_law_wide"] [0, 1, 4] dQ.nd rfl rfl (cy rfl T.range (ae (pv 3) ak)) (λ_ => (aN (i := 0) (show List.Nodup (α := PySem.Str) ["_law_k", "_law_bag_here", "_law_n", "_law_wide"] by decide +kernel))) (λ_ => cm) (λ_ => (cM BL hr T.iS (ae (pv 1) (ae (pv 2) (ae (pv 3) ak))))))
      (ax (eL PassesOwn.never rfl (cy rfl T.range (ae (pv 1) ak)) (aN (i := 10) dQ.nd)
        (ax (eL PassesOwn.never rfl (cp (pv 8)) (aN (i := 11) dQ.nd)
        (aB (dh (PW.pt (mV (PW.pt (jF (bF fI (pv 5) au (bS _)) (kR (bF CM (pv 10) (pv 6) (bS _))))) (ja (PW.pt (jF (bF fI (pv 5) au (bS _)) (jF (bF rW (bT fJ (pv 10) au) (pv 1) (bS _)) (kR (bF fI (cM m9 hr T.a9 (ae (pv 0) (ae au ak))) au (bS _))))))))) (aB (fG (dg (ae au (ae au ak))) (gQ (pv 11) (pv 10) set_list))) cu)))
      (aB (eL PassesOwn.never rfl (cp (pv 9)) (aN (i := 11) dQ.nd)
        (aB (dh (PW.pt (mV (PW.pt (jF (bF fI (pv 5) au (bS _)) (kR (bF CM (pv 10) (pv 6) (bS _))))) (ja (PW.pt (jF (bF fI (pv 5) au (bS _)) (jF (bF vH (pv 10) au (bS _)) (kR (bF fI (cM m9 hr T.a9 (ae (pv 0) (ae au ak))) au (bS _))))))))) (aB (fG (dg (ae au (ae au ak))) (gQ (pv 11) (pv 10) set_list))) cu))))))
      (aB (aW (cM Fd hr T.j5 (ae (pv 0) (ae (pv 7) (ae (pv 8) (ae (pv 9) ak))))))))))))), ?_⟩
    refine aP (σ := [some (.ref b), some (.int n), some (.int i), some (.int o), some (.int w), none, none, none, none, none, none, none]) rfl ?_;have W1 : 1 ≤ max w 6 := by lia
    obtain ⟨q0, I0, xs0, gq0⟩ := hB.inner;exists ⟨b, 6, rfl, hB, by decide, by decide, λway H1 a0 a1 B1 u1 => ?_⟩;exists ⟨b, _, rfl, B1, by lia, by lia, λfirst H2 f0 f1 B2 u2 => ?_⟩;have u02 := u1.trans u2;exists ⟨b, n, w, way, first, rfl, B2, n8, w0, w1, λm us H3 nm0 gm lm ndm rm B3 u3 => ?_⟩;have u03 := u02.trans u3;exists ⟨by lia, by lia, ?_⟩;refine De (n := i) (b := b) (cI K H3) (λxs => xs.length = n /\ ∀ x ∈ xs, Dr (max w 6) x) B3 (by lia) (λa u B => a.upto u B B3.at) (λ⟨q, e, _, _, g, _⟩ => ⟨q, e, by rw [g]; exact λz => nomatch z⟩) ?_ ?_
    · rintro s H' NY NN hi u B k1;exists ⟨b, n, w, rfl, B, by lia, w0, w1, λr xs H2 nr R lx dx B2 u2 => k1 _ xs _ u2 B2 ⟨lx, dx⟩ ⟨r, rfl, u.none B nr, R⟩ ⟨r, rfl, nr⟩⟩
    rintro ws puts H4 p np u4 B4 gp lp ndp hp pr4 nx4;have u04 := u03.trans u4;exists ⟨by lia, by lia, ?_⟩;refine De (n := o) (b := b) (cI K H4) (λxs => xs.length = n /\ ∀ x ∈ xs, Dr (max w 6) x) B4 (by lia) (λa u B => a.upto u B B4.at) (λ⟨q, e, _, _, g, _⟩ => ⟨q, e, by rw [g]; exact λz => nomatch z⟩) ?_ ?_
    · rintro s H' NY NN hi u B k1;exists ⟨b, n, w, rfl, B, by lia, w0, w1, λr xs H2 nr R lx dx B2 u2 => k1 _ xs _ u2 B2 ⟨lx, dx⟩ ⟨r, rfl, u.none B nr, R⟩ ⟨r, rfl, nr⟩⟩
    rintro vs looks H5 l nl u5 B5 gl ll ndl hl pr5 nx5;have u05 := u04.trans u5;have hm0 : H m = none := u02.none B2 nm0;have hp0 : H p = none := u03.none B3 np;have hl0 : H l = none := u04.none B4 nl;have mb : m ≠ b := λz => B2.at (by rw [<- z]; exact nm0)
    have pb : p ≠ b := λz => B3.at (by rw [<- z]; exact np)
    have lb : l ≠ b := λz => B4.at (by rw [<- z]; exact nl)
    have gm4 := u4.other mb gm;have gm5 := u5.other mb gm4;have gp5 := u5.other pb gp;have mp : m ≠ p := λz => by rw [z, np] at gm; cases gm
    have ml : m ≠ l := λz => by rw [z, nl] at gm4; cases gm4
    have pl : p ≠ l := λz => by rw [z, nl] at gp; cases gp
    have mq : m ≠ q0 := λz => Inner.at B2 (u02.2 _ I0) (by rw [<- z]; exact nm0)
    obtain ⟨A, eA⟩ : ∃ A : Addr → Prop, A = λq => H q = none /\ q ≠ m /\ q ≠ p /\ q ≠ l := ⟨_, rfl⟩
    have mkA : ∀ {q}, H q = none → q ≠ m → q ≠ p → q ≠ l → A q := λh1 h2 h3 h4 => by rw [eA]; exact ⟨h1, h2, h3, h4⟩
    have unA : ∀ {q}, A q → H q = none /\ q ≠ m /\ q ≠ p /\ q ≠ l := λh => by rw [eA] at h; exact h
    have MA : GQ A m p l b q0 := ⟨λz => (unA z).2.1 rfl, λz => (unA z).2.2.1 rfl, λz => (unA z).2.2.2 rfl, λz => hB.at (unA z).1, (λz => by have z1 := (unA z).1; rw [gq0] at z1; cases z1), mb, pb, lb, mp, ml, mq⟩;clear eA;have lws : ws.length = i := by rw [<- pr4.length]; exact lp
    have lvs : vs.length = o := by rw [<- pr5.length]; exact ll
    have alM : ∀ q, V.ref q ∈ us → H3 q ≠ none /\ q ≠ b /\ H4 q ≠ none := λq hq => by
      obtain ⟨q', qs, e, ⟨a1, a2⟩, r, z⟩ := rm _ hq;cases e;have qb : q ≠ b := λy => B2.at (by rw [<- y]; exact a1)
      obtain ⟨xq, gq, _⟩ := id r;obtain ⟨xq4, gq4, _⟩ := r.upto u4 B3 qb;exact ⟨(by rw [gq]; exact λz => nomatch z), qb, (by rw [gq4]; exact λz => nomatch z)⟩
    have alP : ∀ q, V.ref q ∈ ws → H3 q = none /\ H4 q ≠ none := λq hq => by
      obtain ⟨_, _, q', e, a, _, g, _⟩ := dd pr4 hq;cases e;exact ⟨a, by rw [g]; exact λz => nomatch z⟩
    have alL : ∀ q, V.ref q ∈ vs → H4 q = none := λq hq => by
      obtain ⟨_, _, q', e, a, _⟩ := dd pr5 hq;cases e;exact a
    have isR : ∀ x, x ∈ us \/ x ∈ ws \/ x ∈ vs → ∃ q, x = V.ref q := λx hx => by
      rcases hx with hx | hx | hx
      · obtain ⟨q, _, e, _⟩ := rm x hx; exact ⟨q, e⟩
      · obtain ⟨_, _, q, e, _⟩ := dd pr4 hx; exact ⟨q, e⟩
      · obtain ⟨_, _, q, e, _⟩ := dd pr5 hx; exact ⟨q, e⟩
    have nd : (us ++ vs ++ ws).Nodup := by
      refine dE.mpr ⟨dE.mpr ⟨ndm, ndl, λx hx y hy e => ?_⟩, ndp, λx hx y hy e => ?_⟩
      · subst e;obtain ⟨q, rfl⟩ := isR x (.inl hx);exact (alM q hx).2.2 (alL q hy)
      · subst e;obtain ⟨q, rfl⟩ := isR x (.inr (.inl hy));rcases az.mp hx with hx | hx
        · exact (alM q hx).1 (alP q hy).1
        · exact (alP q hy).2 (alL q hx)
    have X5 : Im K A n (Dr (max w 6)) m p l b q0 us ws vs H H5 := by
      refine ⟨⟨B5, u05.2 _ I0, gm5, gp5, gl, lm, λx hx => ?_, nd⟩, gp5, gl, λc u e n1 _ _ => u05.1 c u e n1⟩;rcases az.mp hx with hx | hx
      · rcases az.mp hx with hx | hx
        · obtain ⟨q, qs, e, ⟨a1, a2⟩, r, z⟩ := rm x hx;obtain ⟨xq, gq, _⟩ := id r;have qb : q ≠ b := λy => B2.at (by rw [<- y]; exact a1)
          have r4 := r.upto u4 B3 qb;obtain ⟨xq4, gq4, _⟩ := id r4;exact ⟨q, qs, e, mkA (u02.none B2 a1) a2 (λy => by rw [y, np] at gq; cases gq) (λy => by rw [y, nl] at gq4; cases gq4), r4.upto u5 B4 qb, z⟩
        · refine Lh (A := A) pr5 hl (λq hq a b' => ?_) x hx;exact mkA (u04.none B4 a) (λy => by rw [y, gm4] at a; cases a) (λy => by rw [y, gp] at a; cases a) (λy => eN nx5 (by rw [<- y]; exact hq))
      · refine fw.upto (Lh (A := A) pr4 hp (λq hq a b' => ?_) x hx) u5 B4 MA.ab;exact mkA (u03.none B3 a) (λy => by rw [y, gm] at a; cases a) (λy => eN nx4 (by rw [<- y]; exact hq)) (λy => b' (by rw [y]; exact nl))
    clear alM alP alL isR rm pr4 pr5 nx4 nx5 gm gm4 gm5 gp gp5 gl hp hl;exists ⟨by lia, by lia, ?_⟩;refine d5 (n := n) (λkk σ' H' => (∃ x1 x2, σ' = [some (.ref b), some (.int n), some (.int i), some (.int o), some (.int w), some (.int way), some (.int first), some (.ref m), some (.ref p), some (.ref l), x1, x2]) /\ Im K A n (Dr (max w 6)) m p l b q0 us ws vs H H') ⟨⟨_, _, rfl⟩, X5⟩ ?_ ?_
    · rintro kk σ' Hj hk ⟨⟨x1, x2, rfl⟩, X⟩;exists ⟨⟨_, bU.of X.gp⟩, ?_⟩;refine mJ (K := K) (a := p) (xs := ws) (λs σ' H' => (∃ x2, σ' = [some (.ref b), some (.int n), some (.int i), some (.int o), some (.int w), some (.int way), some (.int first), some (.ref m), some (.ref p), some (.ref l), some (.int kk), x2]) /\ Im K A n (Dr (max w 6)) m p l b q0 us ws vs H H') ⟨⟨_, rfl⟩, X⟩ (λs σ' H' _ ⟨_, e⟩ => bU.of e.gp) ?_ ?_
      · rintro s x σ' Hk hx ⟨⟨y2, rfl⟩, X⟩;have mx := ar hx;obtain ⟨q, _, rfl, _⟩ := X.row (.inl mx)
        repeat' (first | walk_at "rd" | refine gZ (λ_ => ?_) (λ_ => ?_))
        all_goals first
          | exact ⟨⟨_, rfl⟩, X⟩
          | (refine cF λt Hb sb gb => ?_; walk_at "w"; obtain ⟨zs, gz, lz, Xz⟩ := (X.same sb).put MA (.inl mx) (cB.mk (q := 0) gb rfl) (sJ (i := 0) (bL _) W1) kk; refine eX gz (fz (by lia)) rfl ?_; exact ⟨⟨_, rfl⟩, Xz⟩)
          | (refine ⟨b, 2, rfl, X.mix.bag, by decide, by decide, λd Hd d0 d1 Bd ud => ?_⟩
             replace X := X.upto MA ud Bd
             repeat' (first | walk_at "rd" | refine gZ (λ_ => ?_) (λ_ => ?_))
             all_goals first
               | exact ⟨⟨_, rfl⟩, X⟩
               | (refine cF λt Hb sb gb => ?_
                  walk_at "w";obtain ⟨zs, gz, lz, Xz⟩ := (X.same sb).put MA (.inl mx) (cB.mk (q := 0) gb rfl) (sJ (i := 0) (bL _) W1) kk;refine eX gz (fz (by lia)) rfl ?_;exact ⟨⟨_, rfl⟩, Xz⟩))
      · rintro σ' Hk ⟨⟨y2, rfl⟩, X⟩;exists ⟨⟨_, bU.of X.gl⟩, ?_⟩;refine mJ (K := K) (a := l) (xs := vs) (λs σ' H' => (∃ x2, σ' = [some (.ref b), some (.int n), some (.int i), some (.int o), some (.int w), some (.int way), some (.int first), some (.ref m), some (.ref p), some (.ref l), some (.int kk), x2]) /\ Im K A n (Dr (max w 6)) m p l b q0 us ws vs H H') ⟨⟨_, rfl⟩, X⟩ (λs σ' H' _ ⟨_, e⟩ => bU.of e.gl) ?_ ?_
        · rintro s x σ' Hk hx ⟨⟨y2, rfl⟩, X⟩;have mx := ar hx;obtain ⟨q, _, rfl, _⟩ := X.row (.inr mx)
          repeat' (first | walk_at "rd" | refine gZ (λ_ => ?_) (λ_ => ?_))
          all_goals first
            | exact ⟨⟨_, rfl⟩, X⟩
            | (refine cF λt Hb sb gb => ?_; walk_at "w"; obtain ⟨zs, gz, lz, Xz⟩ := (X.same sb).put MA (.inr mx) (cB.mk (q := 0) gb rfl) (sJ (i := 0) (bL _) W1) kk; refine eX gz (fz (by lia)) rfl ?_; exact ⟨⟨_, rfl⟩, Xz⟩)
            | (refine ⟨b, 2, rfl, X.mix.bag, by decide, by decide, λd Hd d0 d1 Bd ud => ?_⟩
               replace X := X.upto MA ud Bd
               repeat' (first | walk_at "rd" | refine gZ (λ_ => ?_) (λ_ => ?_))
               all_goals first
                 | exact ⟨⟨_, rfl⟩, X⟩
                 | (refine cF λt Hb sb gb => ?_
                    walk_at "w";obtain ⟨zs, gz, lz, Xz⟩ := (X.same sb).put MA (.inr mx) (cB.mk (q := 0) gb rfl) (sJ (i := 0) (bL _) W1) kk;refine eX gz (fz (by lia)) rfl ?_;exact ⟨⟨_, rfl⟩, Xz⟩))
        · rintro σ' Hk ⟨⟨y2, rfl⟩, X⟩;exact ⟨⟨_, _, rfl⟩, X⟩
    · rintro σ' Hj ⟨⟨x1, x2, rfl⟩, X⟩
      obtain ⟨M1, M2, M3, V0, a1, a2, a3, V2, hcs, R1, R2, R3⟩ : ∃ M1 M2 M3 V0 : Nat, (0 < M1 /\ M1 ≤ 2 ^ 800) /\ (0 < M2 /\ M2 ≤ 2 ^ 800) /\ (0 < M3 /\ M3 ≤ 2 ^ 800) /\ V0 ≤ 2 ^ 20 /\ ((w ≤ 9 /\ M1 = 2520 /\ M2 = 2520 /\ M3 = 2520 /\ V0 = 9) \/ (9 < w /\ M1 ≤ 2 ^ (c * (n * n)) /\ M2 ≤ 2 ^ (c * (i * n)) /\ M3 ≤ 2 ^ (c * (o * n)) /\ V0 = 2 ^ c)) /\ (∀ x ∈ us, fw K A Hj n (Fr M1 V0) x) /\ (∀ x ∈ ws, fw K A Hj n (Fr M2 V0) x) /\ ∀ x ∈ vs, fw K A Hj n (Fr M3 V0) x := by
        by_cases w9 : w ≤ 9
        · have XM := X.mix.weak (C' := λ_ => Fr 2520 9) λ_ _ y h => Mu ⟨ai h.1 (by lia), ai h.2 (by lia)⟩ (Nat.dvd_refl _)
          have z : 0 < 2520 /\ 2520 ≤ 2 ^ 800 := ⟨by decide, ai (show 2520 ≤ 2 ^ 12 by decide) (ao (by decide) (by decide))⟩;exact ⟨2520, 2520, 2520, 9, z, z, z, by decide, .inl ⟨w9, rfl, rfl, rfl, rfl⟩, λx hx => XM.row x (by simp [hx]), λx hx => XM.row x (by simp [hx]), λx hx => XM.row x (by simp [hx])⟩
        · obtain ⟨M1, M2, M3, a1, a2, a3, b1, b2, b3, R1, R2, R3⟩ := (X.mix.weak (C' := λ_ => Dr (2 ^ c)) λ_ _ y h => ⟨ai h.1 hc, ai h.2 hc⟩).fr3;rw [lws] at b2;rw [lvs] at b3;have up : ∀ {M k : Nat}, M ≤ 2 ^ (c * k) → k ≤ (n + i + o) * n → M ≤ 2 ^ 800 := λh hk => ai h (ao (by decide) (ai (aY _ hk) hcM))
          exact ⟨M1, M2, M3, 2 ^ c, ⟨a1, up b1 (ay _ (by lia))⟩, ⟨a2, up b2 (ay _ (by lia))⟩, ⟨a3, up b3 (ay _ (by lia))⟩, ao (by decide) hc20, .inr ⟨by lia, b1, b2, b3, rfl⟩, R1, R2, R3⟩
      obtain ⟨μ, e2, e3, e1, e4⟩ := LL ws vs M1 M2 M3;obtain ⟨ap1, ap2⟩ := X.mix.apart
      have XM : jv K A Hj n (λx => Fr (μ x) V0) m p l b q0 us ws vs := by
        refine ⟨X.mix.bag, X.mix.inn, X.mix.gm, X.mix.gp, X.mix.gl, X.mix.lm, λx hx => ?_, X.mix.nd⟩;rcases az.mp hx with hx | hx
        · rcases az.mp hx with hx | hx
          · rw [e1 x (ap1 x hx).1 (ap1 x hx).2]; exact R1 x hx
          · rw [e3 x hx (ap2 x hx)]; exact R3 x hx
        · rw [e2 x hx]; exact R2 x hx
      have p1 : ∀ x, 0 < μ x := λx => by
        rcases e4 x with e | e | e
        · rw [e]; exact a1.1
        · rw [e]; exact a2.1
        · rw [e]; exact a3.1
      have p2 : ∀ x, μ x ≤ 2 ^ 800 := λx => by
        rcases e4 x with e | e | e
        · rw [e]; exact a1.2
        · rw [e]; exact a2.2
        · rw [e]; exact a3.2
      have gmj := X.mix.gm;exists ⟨b, m, p, l, q0, n, V0, μ, A, us, ws, vs, rfl, MA, XM, n8, by lia, by lia, p1, p2, ⟨M1, e1⟩, V2, λq hq => ?_, λr us' H' g Y kp => ?_⟩
      · refine mkA ?_ (λz => by rw [z, gmj] at hq; cases hq) (λz => by rw [z, X.gp] at hq; cases hq) (λz => by rw [z, X.gl] at hq; cases hq);cases e : H q with
        | none => rfl
        | some u =>
          have := X.kp q u e (λz => X.mix.bag.at (by rw [<- z]; exact hq)) (λz => by have := (unA z).1; rw [e] at this; cases this) (λz => by rw [z, hm0] at e; cases e);rw [hq] at this; cases this
      · obtain ⟨yp1, yp2⟩ := Y.apart;obtain ⟨mv, Gm, lmv, hmv⟩ := jP (H0 := H) (n := n) (C := Fr M1 (9 ^ 3 * V0)) (m := n) ⟨us', Y.gm, Y.lm, MA.am, λx hx => by have := Y.row x (by simp [hx]); rwa [e1 x (yp1 x hx).1 (yp1 x hx).2] at this⟩ λq h => (unA h).1
        obtain ⟨pt, Gp, lpt, hpt⟩ := jP (H0 := H) (n := n) (C := Fr M2 (9 ^ 3 * V0)) (m := i) ⟨ws, Y.gp, lws, MA.ap, λx hx => by have := Y.row x (by simp [hx]); rwa [e2 x hx] at this⟩ λq h => (unA h).1
        obtain ⟨lk, Gl, llk, hlk⟩ := jP (H0 := H) (n := n) (C := Fr M3 (9 ^ 3 * V0)) (m := o) ⟨vs, Y.gl, lvs, MA.al, λx hx => by have := Y.row x (by simp [hx]); rwa [e3 x hx (yp2 x hx)] at this⟩ λq h => (unA h).1
        refine k r mv pt lk H' ⟨m, p, l, g, hm0, hp0, hl0, Gm, Gp, Gl⟩ lmv lpt llk ⟨by lia, by lia, by lia, λxs hx => by rw [(hmv xs hx).1, lmv], λxs hx => by rw [(hpt xs hx).1, lmv], λxs hx => by rw [(hlk xs hx).1, lmv]⟩ ⟨M1, M2, M3, 9 ^ 3 * V0, a1.1, a2.1, a3.1, λxs hx => (hmv xs hx).2, λxs hx => (hpt xs hx).2, λxs hx => (hlk xs hx).2, ?_⟩ Y.bag ⟨λc' u e n1 => (X.kp.trans kp) c' u e n1 (λz => by have := (unA z).1; rw [e] at this; cases this) (λz => by rw [z, hm0] at e; cases e), λq h => by rw [<- Inner.inj I0 h]; exact Y.inn⟩;rcases hcs with ⟨b1, b2, b3, b4, b5⟩ | ⟨b1, b2, b3, b4, b5⟩
        · exact .inl ⟨b1, b2, b3, b4, by rw [b5]⟩
        · exact .inr ⟨b1, b2, b3, b4, by rw [b5]⟩
theorem gP:aV ["_law_bag_here","_law_n","_law_ins","_law_outs","_law_wide"] ["_law_bag_here"] (aI nI):=by walk_at "d"
theorem AR (T:Txt K mg Z):cK P w K mg base fu 6 Z.uh Z.tY ["_law_bag_here"] (Nc K):=by
 refine T.mE.F.ok gP (λvs H Q E h=>?_) (λcdv A outer s H vs Q E hr h=>?_)
 ·obtain ⟨b,rfl,_⟩:=h;rfl
 ·obtain ⟨b,rfl,hB,k⟩:=h
  refine ⟨_,(ax (fG (cM (Ce T) hr T.nV (ae (pv 0) ak)) (yd rfl (c8 (aN (i:=1) gP.nd) (c8 (aN (i:=2) gP.nd) (c8 (aN (i:=3) gP.nd) (c8 (aN (i:=4) gP.nd) jU))))))
   (ax (dh (bF fI (cM (bx T) hr T.a9 (ae (pv 0) (ae au ak))) au (bS _)) (ax (dh (bF fI (cM (bx T) hr T.a9 (ae (pv 0) (ae au ak))) au (bS _)) (aB (aW (dg (ae (cM (vI T) hr T.jh (ae (pv 0) ak)) (ae au ak))))) cu)
   (aB (aW (dg (ae (cM (pO T) hr T.ji (ae (pv 0) (ae (bT fJ au (cM (bx T) hr T.a9 (ae (pv 0) (ae au ak)))) ak))) (ae au ak)))))) cu)
   (aB (aW (dg (ae (cM (Cg T) hr T.nX (ae (pv 0) (ae (pv 1) (ae (pv 2) (ae (pv 3) (ae (pv 4) ak)))))) (ae (bK (tu rfl) (by rfl) T.min PyProof.Rows.boot_min (ae (pv 4) (ae au ak))) ak))))))),?_⟩
  refine aP (σ:=[some (.ref b),none,none,none,none]) rfl ?_;have sf:∀{mv pt lk:LR9} {M V1:Nat},0 < M->M<=2^400->V1<=2^30->GF M V1 mv->GF M V1 pt->GF M V1 lk->JJ mv pt lk:=λh0 h1 h2 a b c=>⟨_,_,h0,h1,ai h2 (ao (by decide) (by decide)),a,b,c⟩
  have et:∀{mv:LR9},(bC mv mv.length).length=mv.length:=cO;exists ⟨b,rfl,hB,λr n i o w H1 g1 n5 i4 o4 hw h5 B1 u1=>?_⟩;exists ⟨b,16,rfl,B1,by decide,by decide,λv H2 v0 v1 B2 u2=>?_⟩;have u02:=u1.trans u2;exists gZ (λh0=>?_) (λh0=>?_)
  ·exists ⟨b,2,rfl,B2,by decide,by decide,λv2 H3 _ _ B3 u3=>?_⟩;have u03:=u02.trans u3;exists gZ (λh1=>?_) (λh1=>?_)
   ·exists ⟨b,rfl,B3,λr4 mv pt lk H4 P4 l6 D fm fp fl B4 u4=>?_⟩;exists cF λt H5 s5 g5=>?_
    exact k t r4 4 mv pt lk H5 g5 ((P4.weak λq h=>u03.none B3 h).same s5) D (sf (by decide) bI (by decide) fm fp fl) (.inl ⟨by decide,by decide,by decide,by decide,by decide,fm,fp,ai (ay _ (show mv.length+4<=12 by have:=D.n8;lia)) (by decide)⟩) (.inl ⟨by decide,by decide,by decide,by decide,by decide,zW fm,fl,ai (ay _ (show (bC mv mv.length).length+4<=12 by have:=D.n8;rw[et];lia)) (by decide)⟩) (by decide) (by decide) (B4.same s5) ((u03.trans u4).same s5)
   ·exists ⟨b,3,rfl,B3,by decide,by decide,λv3 H4 v30 v31 B4 u4=>?_⟩;obtain ⟨v3,rfl⟩:=cP v30;have u04:=u03.trans u4;walk_at "w";rw[show ((6:Int)+(v3:Int))=((6+v3:Nat):Int) by lia];refine ⟨b,6+v3,rfl,B4,by lia,by lia,λr4 mv pt lk H5 P5 lm _ _ D fm fp fl B5 u5=>?_⟩;exists cF λt H6 s6 g6=>?_
    exact k t r4 4 mv pt lk H6 g6 ((P5.weak λq h=>u04.none B4 h).same s6) D (sf (by decide) bI (by decide) fm fp fl) (.inl ⟨by decide,by decide,by decide,by decide,by decide,(λxs hx x hx'=>(fm xs hx x hx').mono (by decide)),(λxs hx x hx'=>(fp xs hx x hx').mono (by decide)),ai (ay _ (show mv.length+4<=12 by have:=D.n8;lia)) (by decide)⟩) (.inl ⟨by decide,by decide,by decide,by decide,by decide,zW (λxs hx x hx'=>(fm xs hx x hx').mono (by decide)),(λxs hx x hx'=>(fl xs hx x hx').mono (by decide)),ai (ay _ (show (bC mv mv.length).length+4<=12 by have:=D.n8;rw[et];lia)) (by decide)⟩) (by decide) (by decide) (B5.same s6) ((u04.trans u5).same s6)
  ·obtain ⟨c,hc,hc20,hcM⟩:∃c:Nat,max w 6<=2^c/\c<=20/\c*((n+i+o)*n)<=800/\(9 < w->c=20/\(n+i+o)*n<=20/\n<=2):=by
    have m1:(n+i+o)*n<=13*5:=aJ (by lia) n5;rcases hw with rfl | rfl | ⟨rfl,n2⟩
    ·exact ⟨4,by decide,by decide,by lia,λz=>by lia⟩
    ·exact ⟨4,by decide,by decide,by lia,λz=>by lia⟩
    ·have m2:(n+i+o)*n<=10*2:=aJ (by lia) n2;exact ⟨20,by decide,by decide,by lia,λ_=>⟨rfl,by lia,n2⟩⟩
   obtain ⟨hcM,hbig⟩:=hcM;exists ⟨b,n,i,o,w,c,rfl,B2,by lia,i4,o4,by lia,by lia,hc,hc20,hcM,λr4 mv pt lk H4 P4 lm lp ll D PF B4 u4=>?_⟩;have hmin:(if (1000:Int) < (w:Int) then (1000:Int) else (w:Int))=((min w 1000:Nat):Int):=by split <;> lia
   have PG:=PF;obtain ⟨M,V1,M0,fm,fp,fl,hcs⟩:=PF.n
   have SF:JJ mv pt lk:=by
    rcases hcs with ⟨w9,rfl,rfl⟩ | ⟨w9,M1,rfl⟩
    ·exact sf (by decide) (ai (show 2520<=2^12 by decide) (ao (by decide) (by decide))) (by decide) fm fp fl
    ·obtain ⟨rfl,e1,e2⟩:=hbig w9;exact sf M0 (ai M1 (ao (by decide) (by lia))) (by decide) fm fp fl
   have RG:Rg mv pt (min w 1000):=by
    obtain ⟨M1,M2,M3,V1,a1,a2,a3,f1,f2,f3,hc'⟩:=PG;rcases hc' with ⟨w9,rfl,rfl,_,rfl⟩ | ⟨w9,b1,b2,_,rfl⟩
    ·exact .inr (.inl ⟨by lia,by lia,by decide,by decide,by decide,by decide,f1,f2,ai (ay _ (show mv.length+4<=9 by lia)) (by decide)⟩)
    ·obtain ⟨rfl,e1,e2⟩:=hbig w9;have q1:n*n<=2*2:=aJ e2 e2;have q2:i*n<=4*2:=aJ i4 e2;have w6:w=1000000:=by lia
     exact .inr (.inr ⟨by lia,by lia,M1,M2,a1,a2,ai b1 (ao (by decide) (by lia)),ai b2 (ao (by decide) (by lia)),f1,f2,ai (ay _ (show mv.length+4<=6 by lia)) (by decide)⟩)
   have RL:Rg (bC mv mv.length) lk (min w 1000):=by
    obtain ⟨M1,M2,M3,V1,a1,a2,a3,f1,f2,f3,hc'⟩:=PG;rcases hc' with ⟨w9,rfl,rfl,rfl,rfl⟩ | ⟨w9,b1,b2,b3,rfl⟩
    ·exact .inr (.inl ⟨by lia,by rw[et];lia,by decide,by decide,by decide,by decide,zW f1,f3,ai (ay _ (show (bC mv mv.length).length+4<=9 by rw[et];lia)) (by decide)⟩)
    ·obtain ⟨rfl,e1,e2⟩:=hbig w9;have q1:n*n<=2*2:=aJ e2 e2;have q2:o*n<=4*2:=aJ o4 e2;have w6:w=1000000:=by lia
     exact .inr (.inr ⟨by lia,by rw[et];lia,M1,M3,a1,a3,ai b1 (ao (by decide) (by lia)),ai b3 (ao (by decide) (by lia)),zW f1,f3,ai (ay _ (show (bC mv mv.length).length+4<=6 by rw[et];lia)) (by decide)⟩)
   exists cF λt H5 s5 g5=>?_
   rw[hmin] at g5;exact k t r4 (min w 1000) mv pt lk H5 g5 ((P4.weak λq h=>u02.none B2 h).same s5) D SF RG RL (by lia) (by lia) (B4.same s5) ((u02.trans u4).same s5)
theorem DZ:aV ["thing","at","most"] ["thing","at","most"] (aI rj):=by walk_at "d"
theorem pK (T:Txt K mg Z):cK P w K mg base fu 1 Z.zg Z.yO ["thing","at","most"] IA:=by
 refine T.je.F.ok DZ (λvs H Q E h=>?_) (λcdv A outer s H vs Q E hr h=>?_)
 ·obtain ⟨p,xs,a,m,rfl,_⟩:=h;rfl
 ·obtain ⟨p,xs,a,m,rfl,gx,hm,k⟩:=h
  refine ⟨_,(ax (dh (kB (jG (ye rfl T.isinstance PyProof.Rows.boot_list T.list (pv 0)))) (aB IX) cu)
   (aB (dh (bF vH (bK bc (by rfl) T.len aU (ae (pv 0) ak)) (pv 2) (bS _)) (aB IX) cu))),?_⟩
  refine aP (σ:=[some (.ref p),some (.int a),some (.int m)]) rfl ?_;exists ⟨_,_,.lst gx,rfl,?_⟩;exists ⟨_,_,rfl,.inl (bU.of gx),?_⟩;walk_at "w";rw[decide_eq_false (show ¬m < (xs.length:Int) by lia)];exists k
theorem FN:aV ["thing"] ["thing"] (aI uF):=by walk_at "d"
theorem yK (T:Txt K mg Z):cK P w K mg base fu 1 Z.BB Z.Bh ["thing"] JU:=by
 refine T.mY.F.ok FN (λvs H Q E h=>?_) (λcdv A outer s H vs Q E hr h=>?_)
 ·obtain ⟨i,rfl,_⟩:=h;rfl
 ·obtain ⟨i,rfl,k⟩:=h;refine ⟨_,(aB (aW (AK (ye rfl T.isinstance PyProof.Rows.boot_int T.int (pv 0)) (Eo (Qo (ye rfl T.isinstance PyProof.Rows.boot_bool T.bool (pv 0))))))),?_⟩;refine aP (σ:=[some (.int i)]) rfl ?_;exists ⟨_,_,.int i,rfl,?_⟩;exists ⟨_,_,.int i,rfl,?_⟩;exists k
theorem gF:aV ["one","other","rest"] ["one","other"] (aI jB):=by walk_at "d"
theorem jc (T:Txt K mg Z):cK P w K mg base fu 1 Z.oK Z.oC ["one","other"] RQ:=by
 refine T.eZ.F.ok gF (λvs H Q E h=>?_) (λcdv A outer s H vs Q E hr h=>?_)
 ·obtain ⟨a,b,rfl,_⟩:=h;rfl
 ·obtain ⟨a,b,rfl,k⟩:=h
  refine ⟨_,(ax (AB PassesOwn.never (bF vG (pv 1) au (bS _))
    (ax (aZ (i:=2) gF.nd rfl (Or.inl rfl) (bT NT (pv 0) (pv 1)))
   (ax (aZ (i:=0) gF.nd rfl (Or.inl rfl) (pv 1))
   (aB (aZ (i:=1) gF.nd rfl (Or.inl rfl) (pv 2))))))
   (aB (aW (bK wH (by rfl) T.abs PyProof.Rows.boot_abs (ae (pv 0) ak))))),?_⟩
  refine aP (σ:=[some (.int a),some (.int b),none]) rfl ?_;exists DI (λσ' H'=>∃(u v:Int) (r:Option V),σ'=[some (.int u),some (.int v),r]/\H'=H/\Int.gcd u v=Int.gcd a b) (λσ' _=>match σ' with | [_,some (.int v),_]=>v.natAbs | _=>0) ⟨a,b,none,rfl,rfl,rfl⟩ ?_;rintro σ' H' ⟨u,v,r,rfl,rfl,hg⟩;exists gZ (λh=>?_) (λh=>?_)
  ·have hv:v≠0:=λz=>by subst z;simp at h
   exists fF (show v≠0 from hv) ?_;exists ⟨⟨v,u.fmod v,_,rfl,rfl,(Mi u v).trans hg⟩,Oa u v hv⟩
  ·have hv:v=0:=by
    by_cases z:v=0
    ·exact z
    ·exfalso;apply h;simp [z]
   subst hv;walk_at "w"
   have e:(if u < 0 then -u else u)=g a b:=by
    unfold g;rw[<- hg,Int.gcd_zero_right]
    split <;> lia
   rw[e];exact k
theorem D6:aV ["thing"] ["thing"] (aI rA):=by walk_at "d"
theorem Ew (T:Txt K mg Z):cK P w K mg base fu 2 Z.zm Z.yS ["thing"] (JY K):=by
 refine T.pV.F.ok D6 (λvs H Q E h=>?_) (λcdv A outer s H vs Q E hr h=>?_)
 ·obtain ⟨x,n,rfl,_⟩:=h;rfl
 ·obtain ⟨x,n,rfl,⟨p,rfl,hp⟩,hn,k⟩:=h
  refine ⟨_,(ax (dh (PW.pt (mV (kB (jG (z5 rfl T.isinstance PyProof.Rows.boot_tuple T.tuple (pv 0)))) (ja (bF vG (bK bc (by rfl) T.len aU (ae (pv 0) ak)) au (bS _))))) (aB (aW tG)) cu)
   (ax (dh (PW.pt (mV (kB (jG (cM (yK T) hr T.mY (ae (aX bY (pv 0) au) ak)))) (ja (kB (jG (cM (yK T) hr T.mY (ae (aX bY (pv 0) au) ak))))))) (aB (aW tG)) cu)
   (aB (aW (AK (jV CM (aX bY (pv 0) au) au (bS _)) (Eo (jV fI (cM (jc T) hr T.eZ (ae (aX bY (pv 0) au) (ae (aX bY (pv 0) au) ak))) au (bS _)))))))),?_⟩
  refine aP (σ:=[some (.ref p)]) rfl ?_;obtain ⟨hb,hg,s1,s2⟩:=hn;exists .inr ⟨p,_,_,rfl,hp,rfl,?_⟩;exists ⟨_,_,rfl,.inr hp,?_⟩;walk_at "w"
  try refine N4 ?_
  exists ⟨n.1,rfl,?_⟩;exists ⟨n.2,rfl,?_⟩;walk_at "w";rw[decide_eq_true (show (1:Int)<=n.2 by lia)];exists ⟨n.1,n.2,rfl,?_⟩;walk_at "w";have e:g n.1 n.2=1:=by unfold g;rw[hg];rfl
  rw[e,decide_eq_true rfl];exact k _ (aH.refl _)
theorem J5:aV ["thing","many"] ["thing","many"] (aI Aw):=by walk_at "d"
theorem Kd (T:Txt K mg Z):cK P w K mg base fu 3 Z.GN Z.Gy ["thing","many"] (xF K):=by
 refine T.yo.F.ok J5 (λvs H Q E h=>?_) (λcdv A outer s H vs Q E hr h=>?_)
 ·obtain ⟨p,ns,rfl,_⟩:=h;rfl
 ·obtain ⟨p,ns,rfl,hp,hl,hn,k⟩:=h
  refine ⟨_,(ax (dh (PW.pt (mV (kB (jG (ye rfl T.isinstance PyProof.Rows.boot_list T.list (pv 0)))) (ja (bF vG (bK bc (by rfl) T.len aU (ae (pv 0) ak)) (pv 1) (bS _))))) (aB (aW tG)) cu)
   (aB (aW (bK (Bv rfl) (by rfl) T.all PyProof.Rows.boot_all (ae (cf ["value"] [] [] (cp (pv 0)) (λ_=>(aN (i:=0) (show ND9 ["value"] by decide +kernel))) (λ_=>cm) (λ_=>(cM (Ew T) hr T.pV (ae (pv 0) ak)))) ak))))),?_⟩
  refine aP (σ:=[some (.ref p),some (.int ns.length)]) rfl ?_;obtain ⟨xs,gx,qx⟩:=id hp;have lx:=qx.length;exists ⟨_,_,.lst gx,rfl,?_⟩;exists ⟨_,_,rfl,.inl (bU.of gx),?_⟩;walk_at "w";rw[show ((xs.length:Nat):Int)=(ns.length:Nat) by rw[lx],decide_eq_true rfl];exists ⟨⟨_,bU.of gx⟩,?_⟩;refine dJ (K:=K) (xs:=xs) (λi ys H'=>aH H H'/\ys=List.replicate i (.bl true)) (aT (bO (by lia))) ⟨aH.refl _,rfl⟩ (λi ys H' _ ⟨s,_⟩=>bU.of (s _ _ gx)) ?_ ?_
  ·rintro i x ys H' hx hlen ⟨s,rfl⟩;obtain ⟨n,en,z⟩:=cX qx hx;exists ⟨x,n,rfl,s.num z,hn n (ar en),λH2 s2=>⟨s.trans s2,by rw[DE]⟩⟩
  ·rintro ys H' hy ⟨s,rfl⟩ l hl';exists ⟨l,List.replicate xs.length true,rfl,bU.of (by rw[aM];simp),?_⟩;have e4:(List.replicate xs.length true).all id=true:=by simp
   rw[e4];exact k _ (s.trans (aH.new hl'))
theorem l8:aV ["things","wide","place","thing"] ["things","wide"] (aI nH):=by walk_at "d"
theorem mi (T:Txt K mg Z):cK P w K mg base fu 4 Z.ug Z.tX ["things","wide"] (IP K):=by
 refine T.gX.F.ok l8 (λvs H Q E h=>?_) (λcdv A outer s H vs Q E hr h=>?_)
 ·obtain ⟨p,H0,rows,w,rfl,_⟩:=h;rfl
 ·obtain ⟨p,H0,rows,w,rfl,hp,hl,hw,hn,k⟩:=h
  refine ⟨_,(ax (eL PassesOwn.never rfl (IY rfl T.enumerate (ae (pv 0) ak)) (yd rfl (c8 (aN (i:=2) l8.nd) (c8 (aN (i:=3) l8.nd) jU)))
    (aB (dh (kB (jG (cM (Kd T) hr T.yo (ae (pv 3) (ae (pv 1) ak))))) (aB IX) cu)))
   (aB (aW (cf ["row"] [] [] (cp (pv 0)) (λ_=>(aN (i:=0) (show ND9 ["row"] by decide +kernel))) (λ_=>cm) (λ_=>(fH (iB K (by rfl)) (by rfl) T.list PyProof.Rows.boot_list (ae (pv 0) ak))))))),?_⟩
  refine aP (σ:=[some (.ref p),some (.int w),none,none]) rfl ?_;obtain ⟨xs,gx,qx,_⟩:=id hp;exists ⟨⟨_,bU.of gx⟩,?_⟩;refine Mn (K:=K) (l:=p) (xs:=xs) (λi σ' H'=>aH H H'/\∃x y,σ'=[some (.ref p),some (.int w),x,y]) ⟨aH.refl _,none,none,rfl⟩ (λi σ' H' _ ⟨s,_⟩=>bU.of (s _ _ gx)) ?_ ?_
  ·rintro i x σ' H' t hx ⟨s,x1,y1,rfl⟩ ht;obtain ⟨qs,eq,q,rfl,_,Rq⟩:=cX qx hx;have hm:=ar eq;have st:aH H' (upd H' t (.tup [.int i,.ref q])):=aH.new ht;have gt:(upd H' t (.tup [.int i,.ref q])) t=some (.tup [.int i,.ref q]):=aM;have s2:=s.trans st;generalize upd H' t (.tup [.int i,.ref q])=H2 at st gt s2 ⊢;have lq:(qs.map nm).length=w:=by rw[ag];exact (hn qs hm).1
   exists ⟨q,_,by rw[lq],(Rq.same s2).rowK,by rw[lq];exact hw,λn hn'=>?_,λH3 s3=>?_⟩
   ·obtain ⟨y,hy,rfl⟩:=aw.mp hn';exact (hn qs hm).2 y hy
   exists ⟨s2.trans s3,_,_,rfl⟩
  ·rintro σ' H' ⟨s,x1,y1,rfl⟩;exists ⟨⟨_,bU.of (s _ _ gx)⟩,?_⟩;refine cN (K:=K) (F:=cI K H0) (cI K H) id (s _ _ gx) (Paired.imp' (λ_ _ z=>z.same s) qx) hl (λa b=>a.same b) (λa b=>a.same b) ?_ ?_
   ·rintro i ns x H2 NY NN en s2 ⟨u,rfl,_,zs,gz,qz⟩ k1;exists ⟨u,zs,rfl,.inl (bU.of gz),λl1 hl1=>?_⟩;exact k1 _ _ (aH.new hl1) ⟨l1,rfl,s.none (s2.none hl1),zs,aM,Paired.imp' (λ_ _ z=>z.same (aH.new hl1)) qz⟩
   ·rintro ys' H2 r hr s2 g pr nx;rw[jy] at pr nx;exact k r H2 (s.none hr) (s.trans s2) ⟨ys',g,pr,eN nx⟩
theorem uD:aV ["self","move","put","look"] ["self","move","put","look"] (aI dX):=by walk_at "d"
theorem fX (T:Txt K mg Z):cK P w K mg base fu 5 Z.jt Z.js ["self","move","put","look"] (IK K Z.a_System):=by
 refine T.ng.ok uD (λvs H Q E h=>?_) (λcdv A outer s H vs Q E hr h=>?_)
 ·obtain ⟨x,dx,p,q,r,Hb,H0,H1,H2,mv,pt,lk,rfl,_⟩:=h;rfl
 ·obtain ⟨x,dx,p,q,r,Hb,H0,H1,H2,mv,pt,lk,rfl,nx,ndx,nex,rfl,gp,gq,gr,D,om,op,ol,k⟩:=h
  refine ⟨_,(ax (kS (cM (pK T) hr T.je (ae (pv 1) (ae au (ae (mW (v:=.int 8) rfl T.mg_MOST_STATES ⟨_,rfl⟩) ak)))))
   (ax (xY (pv 0) (cM (mi T) hr T.gX (ae (pv 1) (ae (bK bc (by rfl) T.len aU (ae (pv 1) ak)) ak))) rfl)
   (ax (xY (pv 0) (bK bc (by rfl) T.len aU (ae (cY (pv 0) rfl) ak)) rfl)
   (ax (kS (cM (pK T) hr T.je (ae (pv 2) (ae au (ae (mW (v:=.int 4) rfl T.mg_MOST_PUTS ⟨_,rfl⟩) ak)))))
   (ax (xY (pv 0) (cM (mi T) hr T.gX (ae (pv 2) (ae (cY (pv 0) rfl) ak))) rfl)
   (ax (xY (pv 0) (bK bc (by rfl) T.len aU (ae (cY (pv 0) rfl) ak)) rfl)
   (ax (kS (cM (pK T) hr T.je (ae (pv 3) (ae au (ae (mW (v:=.int 4) rfl T.mg_MOST_LOOKS ⟨_,rfl⟩) ak)))))
   (ax (xY (pv 0) (cM (mi T) hr T.gX (ae (pv 3) (ae (cY (pv 0) rfl) ak))) rfl)
   (aB (xY (pv 0) (bK bc (by rfl) T.len aU (ae (cY (pv 0) rfl) ak)) rfl)))))))))),?_⟩
  refine aP (σ:=[some (.ref x),some (.ref p),some (.ref q),some (.ref r)]) rfl ?_
  have s0:aH Hb (upd (upd Hb dx (.own x)) x (.ins Z.a_System dx [])):=λb o e=>by
   rw[bN (fo e nx),bN (fo e ndx)];exact e
  have hx:(upd (upd Hb dx (.own x)) x (.ins Z.a_System dx [])) x=some (.ins Z.a_System dx []):=aM;have back:∀{b},(upd (upd Hb dx (.own x)) x (.ins Z.a_System dx [])) b=none->Hb b=none:=λh=>s0.none h
  generalize upd (upd Hb dx (.own x)) x (.ins Z.a_System dx [])=Ha at s0 hx back ⊢;obtain ⟨xs,gx,qx,_⟩:=id gp;obtain ⟨ys,gy,qy,_⟩:=id gq;obtain ⟨zs,gz,qz,_⟩:=id gr;have lx:=qx.length;have ly:=qy.length;have lz:=qz.length;have d1:=D.n8;have d2:=D.i4;have d3:=D.o4;exists ⟨p,xs,0,8,rfl,s0 _ _ gx,by lia,?_⟩;exists ⟨_,_,rfl,.inl (bU.of (s0 _ _ gx)),?_⟩;exists ⟨p,H0,mv,mv.length,by rw[lx],gp.same s0,by lia,by lia,λws hw=>⟨D.mw ws hw,om ws hw⟩,λa H3 na s3 Ga=>?_⟩;have hx3:=s3 _ _ hx;exists ⟨x,Z.a_System,dx,_,rfl,hx3,T.cl_System,T.na_move,(by show 0 < 1000;decide),?_⟩;have e3:Fe x H3 (upd H3 x (.ins Z.a_System dx (cD "move" (.ref a) []))):=Fe.upd;have i3:uu H3 x:=⟨_,_,_,hx3⟩;have hx4:(upd H3 x (.ins Z.a_System dx (cD "move" (.ref a) []))) x=some (.ins Z.a_System dx (cD "move" (.ref a) [])):=aM;have Ga4:=Ga.exc e3 i3;have k4:aH Hb (upd H3 x (.ins Z.a_System dx (cD "move" (.ref a) []))):=(s0.trans s3).after nx;generalize upd H3 x (.ins Z.a_System dx (cD "move" (.ref a) []))=H4 at e3 hx4 Ga4 k4 ⊢;exists ⟨x,Z.a_System,dx,_,_,rfl,hx4,T.cl_System,T.na_move,(by rw[bE,if_pos rfl]),?_⟩;obtain ⟨as,ga,qa,_⟩:=id Ga4;have la:=qa.length;exists ⟨_,_,rfl,.inl (bU.of ga),?_⟩;exists ⟨x,Z.a_System,dx,_,rfl,hx4,T.cl_System,T.na_states,bB d6 (by show 1 < 1000;decide),?_⟩;rw[show ((as.length:Nat):Int)=((mv.length:Nat):Int) by rw[la]];have e4:Fe x H4 (upd H4 x (.ins Z.a_System dx (cD "states" (.int mv.length) (cD "move" (.ref a) [])))):=Fe.upd;have i4:uu H4 x:=⟨_,_,_,hx4⟩;have hx5:(upd H4 x (.ins Z.a_System dx (cD "states" (.int mv.length) (cD "move" (.ref a) [])))) x=some (.ins Z.a_System dx (cD "states" (.int mv.length) (cD "move" (.ref a) []))):=aM;have Ga5:=Ga4.exc e4 i4;have k5:aH Hb (upd H4 x (.ins Z.a_System dx (cD "states" (.int mv.length) (cD "move" (.ref a) [])))):=k4.after nx;generalize upd H4 x (.ins Z.a_System dx (cD "states" (.int mv.length) (cD "move" (.ref a) [])))=H5 at e4 hx5 Ga5 k5 ⊢;clear e3 e4 i3 i4 hx4 Ga4 ga qa;exists ⟨q,ys,1,4,rfl,k5 _ _ gy,by lia,?_⟩;exists ⟨x,Z.a_System,dx,_,_,rfl,hx5,T.cl_System,T.na_states,(by rw[bE,if_pos rfl]),?_⟩;exists ⟨q,H1,pt,mv.length,rfl,gq.same k5,by lia,by lia,λws hw=>⟨D.pw ws hw,op ws hw⟩,λb H6 nb s6 Gb=>?_⟩;have hx6:=s6 _ _ hx5;have i6:uu H6 x:=⟨_,_,_,hx6⟩;exists ⟨x,Z.a_System,dx,_,rfl,hx6,T.cl_System,T.na_put,bB d6 (bB (dA d6) (by show 2 < 1000;decide)),?_⟩;have e6:Fe x H6 (upd H6 x (.ins Z.a_System dx (cD "put" (.ref b) (cD "states" (.int mv.length) (cD "move" (.ref a) []))))):=Fe.upd;have hx7:(upd H6 x (.ins Z.a_System dx (cD "put" (.ref b) (cD "states" (.int mv.length) (cD "move" (.ref a) []))))) x=some (.ins Z.a_System dx (cD "put" (.ref b) (cD "states" (.int mv.length) (cD "move" (.ref a) [])))):=aM;have Ga7:=(Ga5.same s6).exc e6 i6;have Gb7:=(Gb.weak k5).exc e6 i6;have k7:aH Hb (upd H6 x (.ins Z.a_System dx (cD "put" (.ref b) (cD "states" (.int mv.length) (cD "move" (.ref a) []))))):=(k5.trans s6).after nx;generalize upd H6 x (.ins Z.a_System dx (cD "put" (.ref b) (cD "states" (.int mv.length) (cD "move" (.ref a) []))))=H7 at e6 hx7 Ga7 Gb7 k7 ⊢;obtain ⟨bs,gb,qb,_⟩:=id Gb7;have lb:=qb.length;exists ⟨x,Z.a_System,dx,_,_,rfl,hx7,T.cl_System,T.na_put,(by rw[bE,if_pos rfl]),?_⟩;exists ⟨_,_,rfl,.inl (bU.of gb),?_⟩;exists ⟨x,Z.a_System,dx,_,rfl,hx7,T.cl_System,T.na_ins,bB d6 (bB (dA (ai d6 (dA d6))) (by show 3 < 1000;decide)),?_⟩;rw[show ((bs.length:Nat):Int)=((pt.length:Nat):Int) by rw[lb]];have i7:uu H7 x:=⟨_,_,_,hx7⟩;have e7:Fe x H7 (upd H7 x (.ins Z.a_System dx (cD "ins" (.int pt.length) (cD "put" (.ref b) (cD "states" (.int mv.length) (cD "move" (.ref a) [])))))):=Fe.upd;have hx8:(upd H7 x (.ins Z.a_System dx (cD "ins" (.int pt.length) (cD "put" (.ref b) (cD "states" (.int mv.length) (cD "move" (.ref a) [])))))) x=some (.ins Z.a_System dx (cD "ins" (.int pt.length) (cD "put" (.ref b) (cD "states" (.int mv.length) (cD "move" (.ref a) []))))):=aM;have Ga8:=Ga7.exc e7 i7;have Gb8:=Gb7.exc e7 i7;have k8:aH Hb (upd H7 x (.ins Z.a_System dx (cD "ins" (.int pt.length) (cD "put" (.ref b) (cD "states" (.int mv.length) (cD "move" (.ref a) [])))))):=k7.after nx;generalize upd H7 x (.ins Z.a_System dx (cD "ins" (.int pt.length) (cD "put" (.ref b) (cD "states" (.int mv.length) (cD "move" (.ref a) [])))))=H8 at e7 hx8 Ga8 Gb8 k8 ⊢;clear e6 e7 i6 i7 hx7 Ga7 Gb7 gb qb;exists ⟨r,zs,2,4,rfl,k8 _ _ gz,by lia,?_⟩;exists ⟨x,Z.a_System,dx,_,_,rfl,hx8,T.cl_System,T.na_states,(by rw[bE,if_neg (by decide +kernel),bE,if_neg (by decide +kernel),bE,if_pos rfl]),?_⟩;exists ⟨r,H2,lk,mv.length,rfl,gr.same k8,by lia,by lia,λws hw=>⟨D.lw ws hw,ol ws hw⟩,λc H9 nc s9 Gc=>?_⟩;have hx9:=s9 _ _ hx8;have i9:uu H9 x:=⟨_,_,_,hx9⟩;exists ⟨x,Z.a_System,dx,_,rfl,hx9,T.cl_System,T.na_look,bB d6 (bB (dA (ai d6 (dA (ai d6 (dA d6))))) (by show 4 < 1000;decide)),?_⟩;have e9:Fe x H9 (upd H9 x (.ins Z.a_System dx (cD "look" (.ref c) (cD "ins" (.int pt.length) (cD "put" (.ref b) (cD "states" (.int mv.length) (cD "move" (.ref a) []))))))):=Fe.upd;have hxA:(upd H9 x (.ins Z.a_System dx (cD "look" (.ref c) (cD "ins" (.int pt.length) (cD "put" (.ref b) (cD "states" (.int mv.length) (cD "move" (.ref a) []))))))) x=some (.ins Z.a_System dx (cD "look" (.ref c) (cD "ins" (.int pt.length) (cD "put" (.ref b) (cD "states" (.int mv.length) (cD "move" (.ref a) [])))))):=aM;have GaA:=(Ga8.same s9).exc e9 i9;have GbA:=(Gb8.same s9).exc e9 i9;have GcA:=(Gc.weak k8).exc e9 i9;have kA:aH Hb (upd H9 x (.ins Z.a_System dx (cD "look" (.ref c) (cD "ins" (.int pt.length) (cD "put" (.ref b) (cD "states" (.int mv.length) (cD "move" (.ref a) []))))))):=(k8.trans s9).after nx;generalize upd H9 x (.ins Z.a_System dx (cD "look" (.ref c) (cD "ins" (.int pt.length) (cD "put" (.ref b) (cD "states" (.int mv.length) (cD "move" (.ref a) []))))))=HA at e9 hxA GaA GbA GcA kA ⊢;obtain ⟨cs,gc,qc,_⟩:=id GcA;have lc:=qc.length;exists ⟨x,Z.a_System,dx,_,_,rfl,hxA,T.cl_System,T.na_look,(by rw[bE,if_pos rfl]),?_⟩;exists ⟨_,_,rfl,.inl (bU.of gc),?_⟩;exists ⟨x,Z.a_System,dx,_,rfl,hxA,T.cl_System,T.na_outs,bB d6 (bB (dA (ai d6 (dA (ai d6 (dA (ai d6 (dA d6))))))) (by show 5 < 1000;decide)),?_⟩;rw[show ((cs.length:Nat):Int)=((lk.length:Nat):Int) by rw[lc]];have iA:uu HA x:=⟨_,_,_,hxA⟩;exact k _ (kA.after nx) ⟨dx,a,b,c,aM,back na,k5.none nb,k8.none nc,(GaA.exc Fe.upd iA).weak s0,GbA.exc Fe.upd iA,GcA.exc Fe.upd iA⟩
theorem Au:aV ["_law_grid"] ["_law_grid"] (aI nL):=by walk_at "d"
theorem mo (T:Txt K mg Z):cK P w K mg base fu 1 Z.uk Z.t8 ["_law_grid"] (Ap K):=by
 refine T.gY.F.ok Au (λvs H Q E h=>?_) (λcdv A outer s H vs Q E hr h=>?_)
 ·obtain ⟨p,H0,rows,rfl,_⟩:=h;rfl
 ·obtain ⟨p,H0,rows,rfl,hp,hl,hm,k⟩:=h;refine ⟨_,(aB (aW (cf ["_law_row_here"] [] [] (cp (pv 0)) (λ_=>(aN (i:=0) (show ND9 ["_law_row_here"] by decide +kernel))) (λ_=>cm) (λ_=>(fH (iB K (by rfl)) (by rfl) T.list PyProof.Rows.boot_list (ae (pv 0) ak)))))),?_⟩;refine aP (σ:=[some (.ref p)]) rfl ?_;obtain ⟨xs,gx,qx,_⟩:=id hp;exists ⟨⟨_,bU.of gx⟩,?_⟩;refine cN (K:=K) (F:=cI K H0) (cI K H) id gx qx hl (λa b=>a.same b) (λa b=>a.same b) ?_ ?_
  ·rintro i ns x H' NY NN en s ⟨u,rfl,_,zs,gz,qz⟩ k1;exists ⟨u,zs,rfl,.inl (bU.of gz),λl1 hl1=>?_⟩;exact k1 _ _ (aH.new hl1) ⟨l1,rfl,s.none hl1,zs,aM,Paired.imp' (λ_ _ z=>z.same (aH.new hl1)) qz⟩
  ·rintro ys' H' r hr s g pr nx;rw[jy] at pr nx;exact k r H' hr s ⟨ys',g,pr,eN nx⟩
theorem Ef:aV ["_law_parts_here"] ["_law_parts_here"] (aI rK):=by walk_at "d"
theorem EC (T:Txt K mg Z):cK P w K mg base fu 7 Z.zB Z.y7 ["_law_parts_here"] (Ai K Z.a_System):=by
 refine T.p5.F.ok Ef (λvs H Q E h=>?_) (λcdv A outer s H vs Q E hr h=>?_)
 ·obtain ⟨r,H0,mv,pt,lk,rfl,_⟩:=h;rfl
 ·obtain ⟨r,H0,mv,pt,lk,rfl,PQ,D,F,k⟩:=h;refine ⟨_,(aB (aW (zZ T.mk_System (fX T) (hr.mono (by decide)) rfl T.mg_System T.fg .nil CK (ae (cM (mo T) hr T.gY (ae (aX bY (pv 0) au) ak)) (ae (cM (mo T) hr T.gY (ae (aX bY (pv 0) au) ak)) (ae (cM (mo T) hr T.gY (ae (aX bY (pv 0) au) ak)) ak)))))),?_⟩;refine aP (σ:=[some (.ref r)]) rfl ?_;obtain ⟨m,p,l,g,n1,n2,n3,Gm,Gp,Gl⟩:=id PQ;have d1:=D.n8;have d2:=D.i4;have d3:=D.o4;exists ⟨m,H0,mv,rfl,Gm,by lia,λxs hx=>by rw[D.mw xs hx];lia,λa H1 na s1 Ga=>?_⟩;have g1:=s1 _ _ g;exists ⟨p,H0,pt,rfl,Gp.same s1,by lia,λxs hx=>by rw[D.pw xs hx];lia,λb H2 nb s2 Gb=>?_⟩;have s12:=s1.trans s2;have g2:=s12 _ _ g;exists ⟨l,H0,lk,rfl,Gl.same s12,by lia,λxs hx=>by rw[D.lw xs hx];lia,λc H3 nc s3 Gc=>?_⟩;have s13:=s12.trans s3;walk_at "w";intro x dx nx ndx nex;exact ⟨x,dx,a,b,c,H3,H,H1,H2,mv,pt,lk,rfl,nx,ndx,nex,rfl,(Ga.same s2).same s3,Gb.same s3,Gc,D,F.ok.1,F.ok.2.1,F.ok.2.2,λH' s' S'=>⟨rfl,k x H' (s13.none nx) (s13.trans s') (S'.weak s13)⟩⟩
theorem D7:aV ["_law_one","_law_other"] ["_law_one","_law_other"] (aI rC):=by walk_at "d"
theorem Ex (T:Txt K mg Z):cK P w K mg base fu 2 Z.zu Z.yU ["_law_one","_law_other"] (Aj K):=by
 refine T.pW.F.ok D7 (λvs H Q E h=>?_) (λcdv A outer s H vs Q E hr h=>?_)
 ·obtain ⟨p,q,a,b,c,d,rfl,hp,hq,hb,hd,hc,sa,sb,sc,sd,k⟩:=FY h;rfl
 ·obtain ⟨p,q,a,b,c,d,rfl,hp,hq,hb,hd,hc,sa,sb,sc,sd,k⟩:=FY h
  refine ⟨_,(ax (dh (bF rW (aX bY (pv 1) au) au (bS _)) (aB (aW (cM (fP T) hr T.eE (ae (bT jJ au (bT cZ (aX bY (pv 0) au) (aX bY (pv 1) au))) (ae (bT jJ au (bT cZ (aX bY (pv 0) au) (aX bY (pv 1) au))) ak))))) cu)
   (aB (aW (cM (fP T) hr T.eE (ae (bT cZ (aX bY (pv 0) au) (aX bY (pv 1) au)) (ae (bT cZ (aX bY (pv 0) au) (aX bY (pv 1) au)) ak)))))),?_⟩
  refine aP (σ:=[some (.ref p),some (.ref q)]) rfl ?_;have sbc:Sz 8999 (b*c):=(sb.mul sc).mono (by decide);exists gZ (λh=>?_) (λh=>?_)
  ·have h0:c < 0:=of_decide_eq_true h;have hbc:b*c < 0:=ve hb h0;exists fF (show fQ _ _ from .inr ⟨_,_,sa,sd,by decide⟩) ?_;exists fF (show fQ _ _ from .inr ⟨_,_,sb,sc,by decide⟩) ?_;exists ⟨_,_,rfl,by lia,by rw[Int.zero_sub];exact sbc.neg,λr H' s' h'=>?_⟩;exact k r H' s' (by rw[if_pos h0,if_pos h0];exact h')
  ·have h0:¬c < 0:=λz=>h (decide_eq_true z)
   have hbc:0 < b*c:=iC hb (by lia);exists fF (show fQ _ _ from .inr ⟨_,_,sa,sd,by decide⟩) ?_;exists fF (show fQ _ _ from .inr ⟨_,_,sb,sc,by decide⟩) ?_;exists ⟨_,_,rfl,hbc,sbc,λr H' s' h'=>?_⟩;exact k r H' s' (by rw[if_neg h0,if_neg h0];exact h')
theorem Eg:aV ["_law_one","_law_other"] ["_law_one","_law_other"] (aI rM):=by walk_at "d"
theorem ED (T:Txt K mg Z):cK P w K mg base fu 2 Z.zD Z.y9 ["_law_one","_law_other"] (oZ K (λx y=>x - y)):=by
 refine T.p6.F.ok Eg (λvs H Q E h=>?_) (λcdv A outer s H vs Q E hr h=>?_)
 ·obtain ⟨p,q,a,b,c,d,rfl,hp,hq,hb,hd,sa,sb,sc,sd,k⟩:=zX h;rfl
 ·obtain ⟨p,q,a,b,c,d,rfl,hp,hq,hb,hd,sa,sb,sc,sd,k⟩:=zX h;refine ⟨_,(aB (aW (cM (fP T) hr T.eE (ae (bT jJ (bT cZ (aX bY (pv 0) au) (aX bY (pv 1) au)) (bT cZ (aX bY (pv 1) au) (aX bY (pv 0) au))) (ae (bT cZ (aX bY (pv 0) au) (aX bY (pv 1) au)) ak))))),?_⟩;refine aP (σ:=[some (.ref p),some (.ref q)]) rfl ?_;have hbd:0 < b*d:=iC hb hd;have sbd:Sz 8999 (b*d):=(sb.mul sd).mono (by decide);exists fF (show fQ _ _ from .inr ⟨_,_,sa,sd,by decide⟩) ?_;exists fF (show fQ _ _ from .inr ⟨_,_,sc,sb,by decide⟩) ?_;exists fF (show fQ _ _ from .inr ⟨_,_,sb,sd,by decide⟩) ?_;walk_at "w";exists ⟨_,_,rfl,hbd,sbd,k⟩
theorem BY:aV ["_law_one","_law_other"] ["_law_one","_law_other"] (aI pH):=by walk_at "d"
theorem tP (T:Txt K mg Z):cK P w K mg base fu 3 Z.xj Z.wC ["_law_one","_law_other"] (CD K):=by
 refine T.j6.F.ok BY (λvs H Q E h=>?_) (λcdv A outer s H vs Q E hr h=>?_)
 ·obtain ⟨p,q,xs,ys,rfl,_⟩:=h;rfl
 ·obtain ⟨p,q,xs,ys,rfl,hp,hq,hl,hz,h1,h2,kk⟩:=h;refine ⟨_,(aB (aW (cf ["_law_k"] ["_law_one","_law_other"] [0,1] (cy rfl T.range (ae (bK bc (by rfl) T.len aU (ae (pv 0) ak)) ak)) (λ_=>(aN (i:=0) (show ND9 ["_law_k","_law_one","_law_other"] by decide +kernel))) (λ_=>cm) (λ_=>(cM (ED T) hr T.p6 (ae (aX (gA K (by rfl)) (pv 1) (pv 0)) (ae (aX (gA K (by rfl)) (pv 2) (pv 0)) ak))))))),?_⟩;refine aP (σ:=[some (.ref p),some (.ref q)]) rfl ?_;obtain ⟨us,gu,qu⟩:=id hp;obtain ⟨ws,gw,qw⟩:=id hq;have lu:=qu.length;exists ⟨_,_,rfl,.inl (bU.of gu),?_⟩;exists ⟨by lia,by lia,?_⟩;refine gD (n:=us.length) (cB K) (λi=>xs.getD i 0 - ys.getD i 0) (by lia) (λa b=>a.same b) ?_ ?_
  ·rintro i H' NY NN hi s k1;have ix:i < xs.length:=by lia
   have iy:i < ys.length:=by lia
   obtain ⟨vx,ex,nx⟩:=F9 (Paired.imp' (λ_ _ z=>z.same s) qu) ix;obtain ⟨vy,ey,ny⟩:=F9 (Paired.imp' (λ_ _ z=>z.same s) qw) iy;exists cA (bU.of (s _ _ gu)) ex ?_;exists cA (bU.of (s _ _ gw)) ey ?_;exists ⟨_,_,_,_,rfl,nx,ny,h1 _ (getD_mem ix),h2 _ (getD_mem iy),λr3 H3 s3 n3=>k1 _ _ s3 n3⟩
  ·rintro ys' H' l hl' s g pr nx;exact kk l H' hl' s ⟨ys',g,by rw[GY (by lia)];rw[<- lu] at pr;exact pr⟩
theorem eh:aV ["_law_rows","_law_wide","_law_left","_law_found","_law_place","_law_heads","_law_head"] ["_law_rows","_law_wide"] (aI rN):=by walk_at "d"
theorem vK (T:Txt K mg Z):cK P w K mg base fu 4 Z.zE Z.zd ["_law_rows","_law_wide"] (Al K):=by
 refine T.kZ.F.ok eh (λvs H Q E h=>?_) (λcdv A outer s H vs Q E hr h=>?_)
 ·obtain ⟨p,n,S,H0,rows,rfl,_⟩:=h;rfl
 ·obtain ⟨p,n,S,H0,rows,rfl,G,r100,n100,hw,⟨e39,J,j0,jskip,jlean,jlw,jsz⟩,k⟩:=h
  refine ⟨_,(ax (aZ (i:=2) eh.nd rfl (Or.inr rfl) (cf ["_law_row_here"] [] [] (cp (pv 0)) (λ_=>(aN (i:=0) (show ND9 ["_law_row_here"] by decide +kernel))) (λ_=>cm) (λ_=>(fH (iB K (by rfl)) (by rfl) T.list PyProof.Rows.boot_list (ae (pv 0) ak)))))
   (ax (aZ (i:=3) eh.nd rfl (Or.inl rfl) (dD ak))
   (ax (eL PassesOwn.never rfl (cy rfl T.range (ae (pv 1) ak)) (aN (i:=4) eh.nd rfl (Or.inr rfl) (Or.inl rfl))
    (ax (gG 5 ["_law_k"] ["_law_left","_law_place"] [2,4] eh.nd rfl rfl (cy rfl T.range (ae (bK bc (by rfl) T.len aU (ae (pv 2) ak)) ak)) (λ_=>(aN (i:=0) (show ND9 ["_law_k","_law_left","_law_place"] by decide +kernel))) (λ_=>HJ (bF (Ja K (by rfl) (EN hr)) (aX (gA K (by rfl)) (aX (gA K (by rfl)) (pv 1) (pv 0)) (pv 2)) (dg (ae au (ae au ak))) (bS _))) (λ_=>(pv 0)))
   (aB (dh (bF (yg (EN hr)) (pv 5) (dD ak) (bS _)) (ax (aZ (i:=6) eh.nd rfl (Or.inr rfl) (AJ dM PySem.F.slot_list_pop PySem.F.type_list_pop LM (pv 2) (ae (aX bZ (pv 5) au) ak)))
   (ax (aZ (i:=6) eh.nd rfl (Or.inr rfl) (cM (my T) hr T.iI (ae (cM (Ex T) hr T.pW (ae (dg (ae au (ae au ak))) (ae (aX bZ (pv 6) (pv 4)) ak))) (ae (pv 6) ak))))
   (ax (aZ (i:=2) eh.nd rfl (Or.inr rfl) (cf ["_law_row_here"] ["_law_place","_law_head"] [4,6] (cp (pv 2)) (λ_=>(aN (i:=0) (show ND9 ["_law_row_here","_law_place","_law_head"] by decide +kernel))) (λ_=>cm) (λ_=>(cM (tP T) hr T.j6 (ae (pv 0) (ae (cM (my T) hr T.iI (ae (aX (gA K (by rfl)) (pv 0) (pv 1)) (ae (pv 2) ak))) ak))))))
   (ax (gG 3 ["_law_row_here"] ["_law_place","_law_head"] [4,6] eh.nd rfl rfl (cp (pv 3)) (λ_=>(aN (i:=0) (show ND9 ["_law_row_here","_law_place","_law_head"] by decide +kernel))) (λ_=>cm) (λ_=>(cM (tP T) hr T.j6 (ae (pv 0) (ae (cM (my T) hr T.iI (ae (aX (gA K (by rfl)) (pv 0) (pv 1)) (ae (pv 2) ak))) ak)))))
   (aB (kS (AJ dM eP eO lV (pv 3) (ae (pv 6) ak)))))))) cu))))
   (aB (aW (pv 3)))))),?_⟩
  refine aP (σ:=[some (.ref p),some (.int n),none,none,none,none,none]) rfl ?_;obtain ⟨xs,gx,qx,_⟩:=id G;have szT:∀{D:Nat} {x:Rat},0 < D->D<=2^S->Tp D (2^S) x->mQ x:=λh0 h1 t=>xB t h0 (ai h1 (ao (by decide) (by lia))) (ao (by decide) (by lia))
  have szP:∀{D D':Nat} {x y:Rat},0 < D->0 < D'->D<=2^S->D'<=2^S->Tp D (2^S) x->Tp D' (2^S) y->mQ (x*y):=λh0 h0' h1 h1' t t'=>xB (t.mul t') (bQ h0 h0') (ai (aJ h1 h1') (by rw[<- bg];exact ao (by decide) (by lia))) (by rw[<- bg];exact ao (by decide) (by lia))
  exists ⟨⟨_,bU.of gx⟩,?_⟩;refine cN (K:=K) (F:=cI K H0) (cI K H) id gx qx (by lia) (λa b=>a.same b) (λa b=>a.same b) ?_ ?_
  ·rintro i ns x H' NY NN en s ⟨u,rfl,_,zs,gz,qz⟩ k1;exists ⟨u,zs,rfl,.inl (bU.of gz),λl1 hl1=>?_⟩;exact k1 _ _ (aH.new hl1) ⟨l1,rfl,s.none hl1,zs,aM,Paired.imp' (λ_ _ z=>z.same (aH.new hl1)) qz⟩
  rintro ys1 H1 L hL s1 g1 pr1 nx1;rw[jy] at pr1 nx1;have GL1:bo K H H1 L rows:=⟨ys1,g1,pr1,eN nx1⟩;exists c6 λfd H2 s2 nf gf=>?_
  have fdL:fd≠L:=λz=>by rw[z,g1] at nf;cases nf
  clear g1 pr1 nx1;exists ⟨by lia,by lia,?_⟩;refine d5 (n:=n) (λP σ' H'=>aH H H'/\∃lp fp ls fs ps vs y1 y2 y3,σ'=[some (.ref p),some (.int n),some (.ref lp),some (.ref fp),y1,y2,y3]/\H lp=none/\H fp=none/\fp≠lp/\bo K H H' lp ls/\H' fp=some (.lst vs)/\Paired (oa K (λq=>(H q=none/\q≠fp)/\q≠lp) H') fs vs/\fs.length=ps.length/\J P (fs++ls) ps) ⟨s1.trans s2,L,fd,rows,[],[],[],_,_,_,rfl,hL,s1.none nf,fdL,GL1.same s2,gf,.nil,rfl,j0⟩ ?_ ?_
  ·rintro P σ' H' hP ⟨s',lp,fp,ls,fs,ps,vs,y1,y2,y3,rfl,nlp,nfp,fl,GL,gv,pv,hf,JI⟩;have I:=jlw _ _ _ JI;have len:=I.len;rw[av] at len;have wide:=I.wide;obtain ⟨us,gu,qu,nu⟩:=id GL;have lu:=qu.length;have lv:=pv.length
   have szI:∀{i:Nat},i < rows.length->∀c,mQ (br (fs++ls) i c):=λhi c=>by
    obtain ⟨D,D0,D1,D2⟩:=jsz _ _ _ JI (by lia) _ hi;exact szT D0 D1 (D2 c)
   have ez:∀i,(ls.map λr=>r.getD P 0).getD i 0=br ls i P:=λi=>Qw
   exists ⟨_,_,rfl,.inl (bU.of gu),?_⟩;rw[<- lu];exists ⟨by lia,by lia,?_⟩;refine mK (n:=ls.length) (λi ys H''=>aH H' H''/\ys=c4 (F2 (ls.map λr=>r.getD P 0) i)) (aT (bO (by lia))) ⟨aH.refl _,rfl⟩ ?_ ?_
   ·rintro i ys Hb hi hlen ⟨sb,rfl⟩;rw[tw];obtain ⟨xt,vt,et,evt,mt,qt,rfl,nqt,Rt⟩:=fW (Paired.imp' (λ_ _ z=>cI.same z sb) qu) hi;have wt:=wide xt (az.mpr (.inr mt));obtain ⟨zs,gz,qz⟩:=id Rt;obtain ⟨vx,ex,nx⟩:=F9 qz (j:=P) (by lia);have fx:(ls.map λr=>r.getD P 0).getD i 0=xt.getD P 0:=by rw[ez];unfold br;rw[aa (l:=ls),et];rfl
    exists cA (bU.of (sb _ _ gu)) (dG evt) ?_;exists cA (bU.of gz) ex ?_;exists cF λt0 Hc sc gc=>?_
    exists ⟨_,_,LX,xt.getD P 0,0,by decide,nx.same sc,cB.mk (q:=0) gc rfl,?_⟩;by_cases e:xt.getD P 0=0
    ·rw[decide_eq_true e];exists ⟨sb.trans sc,?_⟩;rw[z6,fx,if_neg (by simpa using e)]
    ·rw[decide_eq_false e];exists ⟨sb.trans sc,?_⟩;rw[z6,fx,if_pos e];unfold c4;rw[b9];rfl
   rintro ys Hb hy ⟨sb,rfl⟩ hd hhd;have nzm:∀c,c∈F2 (ls.map λr=>r.getD P 0) ls.length↔c < ls.length/\br ls c P≠0:=λc=>by rw[Qs,ez]
   generalize F2 (ls.map λr=>r.getD P 0) ls.length=hs at hy hhd nzm;have sn:aH Hb (upd Hb hd (.lst (c4 hs))):=aH.new hhd;have gh:(upd Hb hd (.lst (c4 hs))) hd=some (.lst (c4 hs)):=aM;generalize upd Hb hd (.lst (c4 hs))=Hc at sn gh ⊢;have sbc:=sb.trans sn;exists c6 λem Hd sd nd gd=>?_
   exists ⟨_,_,Kk Kl,sE hs,sE [],by decide,tm (sd _ _ gh),tm gd,?_⟩;have sbd:=sbc.trans sd;by_cases e0:hs=[]
   ·subst e0;rw[decide_eq_true rfl];exists ⟨s'.trans sbd,lp,fp,ls,fs,ps,vs,_,_,_,rfl,nlp,nfp,fl,GL.same sbd,sbd _ _ gv,Paired.imp' (λ_ _ z=>oa.same z sbd) pv,hf,jskip _ _ _ JI λi h1 h2=>?_⟩;rw[av] at h2;obtain ⟨j,rfl⟩:∃j,i=fs.length+j:=⟨i - fs.length,by lia⟩;rw[qA];by_cases z:br ls j P=0
    ·exact z
    ·exact absurd ((nzm j).mpr ⟨by lia,z⟩) (by simp)
   ·rw[decide_eq_false (λz=>e0 (Gh z))]
    obtain ⟨t,hs',rfl⟩:∃t hs',hs=t :: hs':=by cases hs with
     | nil=>exact absurd rfl e0
     | cons t r=>exact ⟨t,r,rfl⟩
    obtain ⟨tl,hne⟩:=(nzm t).mp (.head _);have gud:=sbd _ _ gu;obtain ⟨xt,vt,et,evt,mt,qt,rfl,nqt,Rt⟩:=fW (Paired.imp' (λ_ _ z=>cI.same z sbd) qu) tl;have ext:ls.getD t []=xt:=by rw[aa,et];rfl
    have hne':xt.getD P 0≠0:=by unfold br at hne;rw[ext] at hne;exact hne
    have wt:=wide xt (az.mpr (.inr mt));have qtl:qt≠lp:=λz=>nu (by rw[<- z];exact ar evt)
    exists ⟨.inl ⟨rfl,_,bU.of gud⟩,?_⟩;exists cA (bU.of (sd _ _ gh)) (dG (j:=0) rfl) ?_;exists ⟨lp,us,t,t,_,rfl,rfl,gud,by lia,by lia,PySem.StrLaws.seqIndex_nonneg (by lia) (by lia),evt,?_⟩;have s0e:aH H (upd Hd lp (.lst (us.eraseIdx t))):=(s'.trans sbd).after nlp;obtain ⟨us',gu',pu'⟩:=(GL.same sbd).toE;have eus:us'=us:=by rw[gud] at gu';cases gu';rfl
    subst eus;have ple:Paired (oa K (λq=>H q=none/\q≠lp) (upd Hd lp (.lst (us'.eraseIdx t)))) (ls.eraseIdx t) (us'.eraseIdx t):=vF (Paired.imp' (λ_ _ z=>oa.updL z gud (λq h=>h.2)) pu') t;have gle:(upd Hd lp (.lst (us'.eraseIdx t))) lp=some (.lst (us'.eraseIdx t)):=aM;have gve:(upd Hd lp (.lst (us'.eraseIdx t))) fp=some (.lst vs):=by rw[bN fl];exact sbd _ _ gv
    have pve:Paired (oa K (λq=>(H q=none/\q≠fp)/\q≠lp) (upd Hd lp (.lst (us'.eraseIdx t)))) fs vs:=Paired.imp' (λ_ _ z=>oa.updL (oa.same z sbd) gud (λq h=>h.2)) pv;have Re:dI K (upd Hd lp (.lst (us'.eraseIdx t))) qt xt:=Rt.updL gud qtl;generalize upd Hd lp (.lst (us'.eraseIdx t))=He at s0e ple gle gve pve Re ⊢;clear pu' gu' gud Rt;have I2:=jlean _ _ _ _ _ JI hf tl hP (by rw[ext];exact hne');rw[ext] at I2
    have rowD:∀r∈fs++ls,∃D:Nat,0 < D/\D<=2^S/\∀c,Tp D (2^S) (r.getD c 0):=λr hr=>by
     obtain ⟨i,hi,rfl⟩:=aK hr;obtain ⟨D,D0,D1,D2⟩:=jsz _ _ _ JI (by lia) i (by rw[av] at hi;lia);refine ⟨D,D0,D1,λc=>?_⟩;have:=D2 c;unfold br at this;rw[aa (l:=fs++ls),af hi] at this;exact this
    have szr:∀r∈fs++ls,∀y∈r,mQ y:=λr hr y hy=>by
     obtain ⟨D,D0,D1,D2⟩:=rowD r hr;obtain ⟨c,hc,rfl⟩:=aK hy;have:=D2 c;rw[aa,af hc] at this;exact szT D0 D1 this
    have mxt:xt∈fs++ls:=az.mpr (.inr mt);have lu2:(m6 P xt).length=n:=by unfold m6;rw[ag];exact wt
    obtain ⟨Du,Du0,Du1,Du2⟩:∃D:Nat,0 < D/\D<=2^S/\∀y∈m6 P xt,Tp D (2^S) y:=by
     obtain ⟨D,D0,D1,D2⟩:=jsz _ _ _ I2 (by lia) ps.length (by lia);refine ⟨D,D0,D1,λy hy=>?_⟩;obtain ⟨c,hc,rfl⟩:=aK hy;have:=D2 c;rw[cz,show ps.length=(fs.map (zP P (m6 P xt))).length+0 by rw[ag];lia,qA] at this
     have e:br ([m6 P xt]++(ls.eraseIdx t).map (zP P (m6 P xt))) 0 c=(m6 P xt)[c]:=by
      show (m6 P xt).getD c 0=_
      rw[aa,af hc];rfl
     rw[e] at this;exact this
    have szu:∀y∈m6 P xt,mQ y:=λy hy=>szT Du0 Du1 (Du2 y hy)
    have szp:∀r∈fs++ls,∀y∈m6 P xt,mQ (r.getD P 0*y):=λr hr y hy=>by
     obtain ⟨D,D0,D1,D2⟩:=rowD r hr;exact szP D0 Du0 D1 Du1 (D2 P) (Du2 y hy)
    obtain ⟨zs,gz,qz⟩:=id Re;obtain ⟨vx,ex,nx⟩:=F9 qz (j:=P) (by lia);have szx:mQ (xt.getD P 0):=szr xt mxt _ (getD_in (by lia));exists cF λtq Hf sf gf=>?_
    exists cA (bU.of (sf _ _ gz)) ex ?_;exists ⟨_,_,1,xt.getD P 0,rfl,cB.mk (q:=1) gf rfl,nx.same sf,MX,szx,hne',λqr Hg sg nq=>?_⟩;have sfg:=sf.trans sg;exists ⟨_,qt,1 / xt.getD P 0,xt,rfl,nq,MY szx hne',Re.same sfg,by lia,szr xt mxt,λur Hh nur sh Rur=>?_⟩;have Rur:dI K Hh ur (m6 P xt):=Rur;have seh:=sfg.trans sh;have s0h:=s0e.trans seh;have nur0:H ur=none:=(s0e.trans sfg).none nur;exists ⟨⟨_,bU.of (seh _ _ gle)⟩,?_⟩;refine cN (K:=K) (F:=oa K (λq=>H q=none/\q≠lp)) (cI K H) (zP P (m6 P xt)) (seh _ _ gle) (Paired.imp' (λ_ _ z=>oa.same z seh) ple) (by rw[Pb tl];lia) (λa b=>a.same b) (λa b=>a.same b) ?_ ?_
    ·rintro i ns x Hi NY NN en si ⟨q,rfl,nq0,Rq⟩ k1;have mn:ns∈fs++ls:=az.mpr (.inr (Rm (ar en)));have wn:=wide ns mn;obtain ⟨zs2,gz2,qz2⟩:=id Rq;obtain ⟨vx2,ex2,nx2⟩:=F9 qz2 (j:=P) (by lia);exists cA (bU.of gz2) ex2 ?_;exists ⟨_,ur,ns.getD P 0,m6 P xt,rfl,nx2,szr ns mn _ (getD_in (by lia)),Rur.same si,by lia,szu,λb1 Hj nb1 sj Rb=>?_⟩;exists ⟨q,b1,ns,_,rfl,Rq.same sj,Rb,by rw[ag];lia,by lia,szr ns mn,λy hy=>?_,λr2 Hk nr2 sk Rk=>?_⟩
     ·obtain ⟨y',hy',rfl⟩:=aw.mp hy;exact szp ns mn y' hy'
     ·exact k1 _ _ (sj.trans sk) ⟨r2,rfl,s0h.none (si.none (sj.none nr2)),Rk⟩
    rintro yl Hk lp2 hlp2 sk gk prk nxk;have s0k:=s0h.trans sk;have Gk:bo K H Hk lp2 ((ls.eraseIdx t).map (zP P (m6 P xt))):=⟨yl,gk,prk,eN nxk⟩;have Ruk:=Rur.same sk;exists ⟨⟨_,bU.of (sk _ _ (seh _ _ gve))⟩,?_⟩;refine cN (K:=K) (F:=oa K (λq=>(H q=none/\q≠fp)/\q≠lp)) (cI K Hk) (zP P (m6 P xt)) (sk _ _ (seh _ _ gve)) (Paired.imp' (λ_ _ z=>oa.same (oa.same z seh) sk) pve) (by lia) (λa b=>a.same b) (λa b=>a.same b) ?_ ?_
    ·rintro i ns x Hi NY NN en si ⟨q,rfl,nq0,Rq⟩ k1;have mn:ns∈fs++ls:=az.mpr (.inl (ar en));have wn:=wide ns mn;obtain ⟨zs2,gz2,qz2⟩:=id Rq;obtain ⟨vx2,ex2,nx2⟩:=F9 qz2 (j:=P) (by lia);exists cA (bU.of gz2) ex2 ?_;exists ⟨_,ur,ns.getD P 0,m6 P xt,rfl,nx2,szr ns mn _ (getD_in (by lia)),Ruk.same si,by lia,szu,λb1 Hj nb1 sj Rb=>?_⟩;exists ⟨q,b1,ns,_,rfl,Rq.same sj,Rb,by rw[ag];lia,by lia,szr ns mn,λy hy=>?_,λr2 Hl nr2 sl Rl=>?_⟩
     ·obtain ⟨y',hy',rfl⟩:=aw.mp hy;exact szp ns mn y' hy'
     ·exact k1 _ _ (sj.trans sl) ⟨r2,rfl,si.none (sj.none nr2),Rl⟩
    rintro yf Hl fp2 hfp2 sl gl prl nxl;have lyf:=prl.length;rw[ag] at lyf;have nfp2:H fp2=none:=s0k.none hfp2;have nlp2:H lp2=none:=s0h.none hlp2;have fl2:fp2≠lp2:=λz=>by rw[z,gk] at hfp2;cases hfp2
    have urk:Hk ur≠none:=by obtain ⟨_,gg,_⟩:=Ruk;rw[gg];exact λz=>nomatch z
    have urf:ur≠fp2:=λz=>urk (by rw[z];exact hfp2)
    have url:ur≠lp2:=λz=>by obtain ⟨_,gg,_⟩:=Rur;rw[z,hlp2] at gg;cases gg
    exists ⟨.inl ⟨rfl,_,bU.of gl⟩,?_⟩;exists lQ gl (bO (by lia)) ?_;refine ⟨(s0k.trans sl).after nfp2,lp2,fp2,_,_,ps++[P],_,_,_,_,rfl,nlp2,nfp2,fl2,?_,aM,?_,by rw[av,av,ag];show fs.length+1=ps.length+1;lia,I2⟩
    ·obtain ⟨ul,gul,pul⟩:=Gk.toE;refine bo.ofE (P:=λq=>(H q=none/\q≠lp2)/\q≠fp2) (by rw[bN (Ne.symm fl2)];exact sl _ _ gul) (Paired.imp' (λ_ _ ⟨q,e1,e2,e3⟩=>?_) pul) (λq h=>h.1.1) (λq h=>h.1.2);have qf:q≠fp2:=λz=>by obtain ⟨_,gg,_⟩:=e3;rw[z,hfp2] at gg;cases gg
     exact ⟨q,e1,⟨e2,qf⟩,(dI.same e3 sl).updL gl qf⟩
    ·have nn:=eN nxl;refine cg (rV (λxs v hv ⟨q,e1,e2,e3⟩=>?_) prl) (.cons ⟨ur,rfl,⟨⟨nur0,urf⟩,url⟩,(Ruk.same sl).updL gl urf⟩ .nil);have qf:q≠fp2:=λz=>nn (by rw[<- z,<- e1];exact hv)
     exact ⟨q,e1,⟨⟨s0k.none e2,qf⟩,λz=>by rw[z,gk] at e2;cases e2⟩,dI.updL e3 gl qf⟩
  ·rintro σ' H' ⟨s',lp,fp,ls,fs,ps,vs,y1,y2,y3,rfl,nlp,nfp,fl,GL,gv,pv,hf,JI⟩;have I:=jlw _ _ _ JI;have D:=I.done hw;rw[List.take_left' hf] at D;obtain ⟨km,_⟩:=I.km;exists k fp fs ps H' nfp s' (bo.ofE gv pv (λq h=>h.1.1) (λq h=>h.1.2)) D km
theorem mU:aV ["_law_one","_law_other","_law_total","_law_k"] ["_law_one","_law_other"] (aI uK):=by walk_at "d"
theorem yM (T:Txt K mg Z):cK P w K mg base fu 3 Z.BG Z.Bn ["_law_one","_law_other"] (DS K):=by
 refine T.m4.F.ok mU (λvs H Q E h=>?_) (λcdv A outer s H vs Q E hr h=>?_)
 ·obtain ⟨p,q,xs,ys,rfl,_⟩:=h;rfl
 ·obtain ⟨p,q,xs,ys,rfl,hp,hq,hl,hz,⟨k1,j1,k2,j2,h1,h2,hkj⟩,kk⟩:=h
  refine ⟨_,(ax (aZ (i:=2) mU.nd rfl (Or.inl rfl) (dg (ae au (ae au ak))))
   (ax (eL PassesOwn.never rfl (cy rfl T.range (ae (bK bc (by rfl) T.len aU (ae (pv 0) ak)) ak)) (aN (i:=3) mU.nd)
    (aB (aZ (i:=2) mU.nd rfl (Or.inl rfl) (cM (mX T) hr T.iQ (ae (pv 2) (ae (cM (kW T) hr T.ie (ae (aX bZ (pv 0) (pv 3)) (ae (aX bZ (pv 1) (pv 3)) ak))) ak))))))
   (aB (aW (pv 2))))),?_⟩
  refine aP (σ:=[some (.ref p),some (.ref q),none,none]) rfl ?_;obtain ⟨us,gu,qu⟩:=id hp;obtain ⟨ws,gw,qw⟩:=id hq;have lu:=qu.length;have lw:=qw.length;exists cF λr0 H0 s0 g0=>?_
  exists ⟨_,_,rfl,.inl (bU.of (s0 _ _ gu)),?_⟩;exists ⟨by lia,by lia,?_⟩;refine d5 (n:=us.length) (λi σ' H'=>aH H H'/\∃(r:V) (v:Option V),σ'=[some (.ref p),some (.ref q),some r,v]/\cB K H' (cS (xs.take i) (ys.take i)) r) ⟨s0,_,none,rfl,cB.mk g0 rfl⟩ ?_ ?_
  ·rintro i σ' H' hi ⟨s,r,v,rfl,hr⟩;have ix:i < xs.length:=by lia
   have iy:i < ys.length:=by lia
   obtain ⟨vx,ex,nx⟩:=F9 (Paired.imp' (λ_ _ z=>z.same s) qu) ix;obtain ⟨vy,ey,ny⟩:=F9 (Paired.imp' (λ_ _ z=>z.same s) qw) iy;exists cA (bU.of (s _ _ gu)) ex ?_;exists cA (bU.of (s _ _ gw)) ey ?_;exists ⟨_,_,_,_,rfl,nx,ny,h1.szn (getD_mem ix) (by lia),h2.szn (getD_mem iy) (by lia),λr3 H3 s3 n3=>?_⟩;exists ⟨_,_,_,_,rfl,hr.same s3,n3,Mv h1 h2 hz i hkj,LJ (h1.one (getD_mem ix)) (h2.one (getD_mem iy)) hkj,λr4 H4 s4 n4=>?_⟩;exists ⟨(s.trans s3).trans s4,_,_,rfl,by rw[CZ ix iy];exact n4⟩
  ·rintro σ' H' ⟨s,r,v,rfl,hr⟩;rw[aL (by lia),aL (by lia)] at hr;obtain ⟨t,rfl,ht⟩:=hr;exists kk _ H' s ⟨t,rfl,ht⟩
theorem HD:aV ["_law_grid","_law_row_here"] ["_law_grid","_law_row_here"] (aI xU):=by walk_at "d"
theorem uR (T:Txt K mg Z):cK P w K mg base fu 4 Z.Dx Z.C8 ["_law_grid","_law_row_here"] (DR K):=by
 refine T.mF.F.ok HD (λvs H Q E h=>?_) (λcdv A outer s H vs Q E hr h=>?_)
 ·obtain ⟨p,q,H0,rows,ys,rfl,_⟩:=h;rfl
 ·obtain ⟨p,q,H0,rows,ys,rfl,hp,hq,hz,hl,hr1,kk⟩:=h;refine ⟨_,(aB (aW (cf ["_law_one"] ["_law_row_here"] [1] (cp (pv 0)) (λ_=>(aN (i:=0) (show ND9 ["_law_one","_law_row_here"] by decide +kernel))) (λ_=>cm) (λ_=>(cM (yM T) hr T.m4 (ae (pv 0) (ae (pv 1) ak))))))),?_⟩;refine aP (σ:=[some (.ref p),some (.ref q)]) rfl ?_;obtain ⟨xs,gx,qx,_⟩:=id hp;exists ⟨⟨_,bU.of gx⟩,?_⟩;refine cN (K:=K) (F:=cI K H0) (cB K) (λxs=>cS xs ys) gx qx hz (λa b=>a.same b) (λa b=>a.same b) ?_ ?_
  ·rintro i ns x H' NY NN en s ⟨u,rfl,_,hu⟩ k;obtain ⟨e1,e2⟩:=hr1 ns (ar en);exists ⟨u,q,ns,ys,rfl,hu,hq.same s,e1.symm,by lia,e2,λr H2 s2 h2'=>k _ _ s2 h2'⟩
  ·rintro ys' H' r hr s g pr nx;exact kk r H' hr s ⟨ys',g,pr⟩
theorem gC:aV ["_law_parts_here","_law_steps_here","_law_rows","_law_some","_law_turn"] ["_law_parts_here","_law_steps_here"] (aI pJ):=by walk_at "d"
theorem Ci (T:Txt K mg Z):cK P w K mg base fu 5 Z.xl Z.wF ["_law_parts_here","_law_steps_here"] (CI K):=by
 refine T.nY.F.ok gC (λvs H Q E h=>?_) (λcdv A outer s H vs Q E hr h=>?_)
 ·obtain ⟨r,tt,H0,mv,pt,lk,rfl,_⟩:=h;rfl
 ·obtain ⟨r,tt,H0,mv,pt,lk,rfl,hT,PQ,D,AF,k⟩:=h
  refine ⟨_,(ax (gG 2 ["_law_row_here"] [] [] gC.nd rfl rfl (cp (aX bY (pv 0) au)) (λ_=>(aN (i:=0) (show ND9 ["_law_row_here"] by decide +kernel))) (λ_=>cm) (λ_=>(fH (iB K (by rfl)) (by rfl) T.list PyProof.Rows.boot_list (ae (pv 0) ak))))
   (ax (aZ (i:=3) gC.nd rfl (Or.inl rfl) (dD ak))
   (ax (eL PassesOwn.never rfl (cy rfl T.range (ae (pv 1) ak)) (aN (i:=4) gC.nd)
    (ax (aZ (i:=3) gC.nd rfl (Or.inl rfl) (bT kC (pv 3) (pv 2)))
   (aB (gG 2 ["_law_row_here"] ["_law_parts_here"] [0] gC.nd rfl rfl (cp (pv 2)) (λ_=>(aN (i:=0) (show ND9 ["_law_row_here","_law_parts_here"] by decide +kernel))) (λ_=>cm) (λ_=>(cM (uR T) hr T.mF (ae (aX (m5 K (by rfl)) (pv 1) au) (ae (pv 0) ak))))))))
   (aB (aW (pv 3)))))),?_⟩
  refine aP (σ:=[some (.ref r),some (.int tt),none,none,none]) rfl ?_;have d1:=D.n8;have i4:=D.i4;obtain ⟨m,p,l,g,n1,n2,n3,Gm,Gp,Gl⟩:=id PQ;obtain ⟨up,gp,qp,_⟩:=id Gp;have lup:=qp.length;exists ⟨⟨_,bU.of gp⟩,?_⟩;refine cN (K:=K) (F:=cI K H0) (cI K H) id gp qp (by lia) (λa b=>a.same b) (λa b=>a.same b) ?_ ?_
  ·rintro i ns x H' NY NN en s ⟨u,rfl,_,zs,gz,qz⟩ k1;exists ⟨u,zs,rfl,.inl (bU.of gz),λl1 hl1=>?_⟩;exact k1 _ _ (aH.new hl1) ⟨l1,rfl,s.none hl1,zs,aM,Paired.imp' (λ_ _ z=>z.same (aH.new hl1)) qz⟩
  rintro ys1 H1 rq1 hr1 s1 g1 pr1 nx1;rw[jy] at pr1 nx1;have G1:bo K H H1 rq1 pt:=⟨ys1,g1,pr1,eN nx1⟩;exists c6 λsm0 H2 s2 nf gf=>?_
  have s02:=s1.trans s2;exists ⟨by lia,by lia,?_⟩;refine d5 (n:=tt) (λt σ' H'=>aH H H'/\∃rq sm y,σ'=[some (.ref r),some (.int tt),some (.ref rq),some (.ref sm),y]/\H sm=none/\bo K H H' sm (kry mv pt t)/\bo K H H' rq (pt.map (ou mv t))) ⟨s02,rq1,sm0,_,rfl,s1.none nf,⟨[],gf,.nil,λz=>nomatch z⟩,by rw[show pt.map (ou mv 0)=pt from jy pt];exact G1.same s2⟩ ?_ ?_
  ·rintro t σ' H' ht ⟨s',rq,sm,y,rfl,nsm,Gs,Gq⟩;obtain ⟨us,gu,pu,_⟩:=id Gs;obtain ⟨zs,gz,qz,_⟩:=id Gq;have lz:=qz.length;rw[ag] at lz;have lu:=pu.length;rw[vR] at lu;have lb:t*pt.length<=20*4:=aJ (by lia) i4;exists kz gu gz (aT (bO (by lia))) λcc H3 s3 nc gc=>?_
   have ek:kry mv pt (t+1)=kry mv pt t++pt.map (ou mv t):=by
    rw[<- wN,JE,List.flatten_append,wN];simp
   have Gc:bo K H H3 cc (kry mv pt (t+1)):=by
    rw[ek];exact ⟨_,gc,Paired.imp' (λ_ _ z=>cI.same z s3) (cg pu qz),eN ⟨H',nc,cg pu qz⟩⟩
   have s03:=s'.trans s3;have g3:=s03 _ _ g;exists ⟨⟨_,bU.of (s3 _ _ gz)⟩,?_⟩;refine cN (K:=K) (F:=cI K H) (cI K H) (ow mv) (s3 _ _ gz) (Paired.imp' (λ_ _ z=>cI.same z s3) qz) (by rw[ag];lia) (λa b=>a.same b) (λa b=>a.same b) ?_ ?_
   ·rintro i ns v Ha NY NN en sa ⟨u,rfl,_,Ru⟩ k1;have mn:=ar en;obtain ⟨y0,hy0,rfl⟩:=aw.mp mn;have wy:=D.pw y0 hy0;have ga:=sa _ _ g3;exists ⟨m,u,H0,mv,_,rfl,(Gm.same s03).same sa,Ru,by lia,by rw[En wy];lia,λxs hx=>⟨by rw[D.mw xs hx,En wy],((AF.row D.mw D.pw y0 hy0).fit D.mw wy (show t<=tt by lia)).1 xs hx⟩,λz Hj nz sj Rz=>k1 _ _ sj ⟨z,rfl,s03.none (sa.none nz),Rz⟩⟩
   ·rintro ys Hb rr hrr sb gb prb nxb;have e:(pt.map (ou mv t)).map (ow mv)=pt.map (ou mv (t+1)):=by rw[fD];rfl
    rw[e] at prb nxb;exact ⟨s03.trans sb,rr,cc,_,rfl,s'.none nc,Gc.same sb,ys,gb,prb,eN nxb⟩
  ·rintro σ' H' ⟨s',rq,sm,y,rfl,nsm,Gs,Gq⟩;exists k sm H' nsm s' Gs
theorem Ee:aV ["_law_parts_here","_law_row_here"] ["_law_parts_here","_law_row_here"] (aI rG):=by walk_at "d"
theorem Ez (T:Txt K mg Z):cK P w K mg base fu 4 Z.zy Z.yY ["_law_parts_here","_law_row_here"] (II K):=by
 refine T.pY.F.ok Ee (λvs H Q E h=>?_) (λcdv A outer s H vs Q E hr h=>?_)
 ·obtain ⟨r,a,H0,mv,pt,lk,z,rfl,_⟩:=h;rfl
 ·obtain ⟨r,a,H0,mv,pt,lk,z,rfl,PQ,D,Rz,lz,ff,k⟩:=h;refine ⟨_,(aB (aW (cf ["_law_j"] ["_law_row_here","_law_parts_here"] [1,0] (cy rfl T.range (ae (bK bc (by rfl) T.len aU (ae (pv 1) ak)) ak)) (λ_=>(aN (i:=0) (show ND9 ["_law_j","_law_row_here","_law_parts_here"] by decide +kernel) rfl (Or.inr rfl) (Or.inl rfl))) (λ_=>cm) (λ_=>(cM (yM T) hr T.m4 (ae (pv 1) (ae (cf ["_law_some"] ["_law_j"] [0] (AH K (aX (m5 K (by rfl)) (pv 2) au)) (λ_=>(aN (i:=0) (show ND9 ["_law_some","_law_j"] by decide +kernel))) (λ_=>cm) (λ_=>(aX (gA K (by rfl)) (pv 0) (pv 1)))) ak))))))),?_⟩;refine aP (σ:=[some (.ref r),some (.ref a)]) rfl ?_;have d8:=D.n8;obtain ⟨m,p,l,gt,mn,pn,ln,Gm,Gp,Gl⟩:=id PQ;obtain ⟨um,gm,qm,_⟩:=id Gm;obtain ⟨uz,gz,qz⟩:=id Rz;have lum:=qm.length;have luz:=qz.length;exists ⟨_,_,rfl,.inl (bU.of gz),?_⟩;rw[<- luz,lz];exists ⟨by lia,by lia,?_⟩;refine gD (n:=mv.length) (cB K) (λj=>cS (mv.map λxs=>xs.getD j 0) z) (by lia) (λa b=>a.same b) ?_ ?_
  ·rintro j H' NY NN hj s' k1;have gt':=s' _ _ gt;exists ⟨⟨_,bU.of (s' _ _ gm)⟩,?_⟩;refine cN (K:=K) (as:=mv) (F:=cI K H0) (cB K) (λxs=>xs.getD j 0) (s' _ _ gm) (Paired.imp' (λ_ _ y=>cI.same y s') qm) (by lia) (λh s=>h.same s) (λh s=>h.same s) ?_ ?_
   ·rintro i xs x H2 NY2 NN2 ex s2 ⟨u,rfl,_,zs,gzs,qzs⟩ k2;have lx:=D.mw xs (ar ex);have lzs:=qzs.length;obtain ⟨w,v,e1,e2,_,nv⟩:=fW qzs (i:=j) (by lia);exists cA (bU.of gzs) (dG e2) ?_;refine k2 _ _ (aH.refl _) ?_;rw[aa,e1];exact nv
   rintro ys H2 c nc s2 gc pc _;walk_at "w";have mc:(mv.map λxs=>xs.getD j 0)∈bC mv mv.length:=ar (DL hj);refine ⟨a,c,z,_,rfl,Rz.same (s'.trans s2),⟨ys,gc,pc⟩,by rw[ag,lz],by lia,(ff _ mc).symm,λq H3 s3 N3=>?_⟩;refine k1 _ _ (s2.trans s3) ?_;rw[yx];exact N3
  rintro ys H2 q nq s2 gq pq _;refine k q H2 nq s2 ⟨ys,gq,?_⟩;have e:((bC mv mv.length).map λys=>cS ys z)=(List.range mv.length).map λj=>cS (mv.map λxs=>xs.getD j 0) z:=by unfold bC;rw[fD];rfl
  rw[e];exact pq
theorem gB:aV ["_law_parts_here","_law_steps_here","_law_rows","_law_some","_law_turn"] ["_law_parts_here","_law_steps_here"] (aI pC):=by walk_at "d"
theorem Cf (T:Txt K mg Z):cK P w K mg base fu 5 Z.xg Z.we ["_law_parts_here","_law_steps_here"] (IC K):=by
 refine T.nW.F.ok gB (λvs H Q E h=>?_) (λcdv A outer s H vs Q E hr h=>?_)
 ·obtain ⟨r,tt,H0,mv,pt,lk,rfl,_⟩:=h;rfl
 ·obtain ⟨r,tt,H0,mv,pt,lk,rfl,hT,PQ,D,AF,k⟩:=h
  refine ⟨_,(ax (gG 2 ["_law_row_here"] [] [] gB.nd rfl rfl (cp (aX bY (pv 0) au)) (λ_=>(aN (i:=0) (show ND9 ["_law_row_here"] by decide +kernel))) (λ_=>cm) (λ_=>(fH (iB K (by rfl)) (by rfl) T.list PyProof.Rows.boot_list (ae (pv 0) ak))))
   (ax (aZ (i:=3) gB.nd rfl (Or.inl rfl) (dD ak))
   (ax (eL PassesOwn.never rfl (cy rfl T.range (ae (pv 1) ak)) (aN (i:=4) gB.nd)
    (ax (aZ (i:=3) gB.nd rfl (Or.inl rfl) (bT kC (pv 3) (pv 2)))
   (aB (gG 2 ["_law_row_here"] ["_law_parts_here"] [0] gB.nd rfl rfl (cp (pv 2)) (λ_=>(aN (i:=0) (show ND9 ["_law_row_here","_law_parts_here"] by decide +kernel))) (λ_=>cm) (λ_=>(cM (Ez T) hr T.pY (ae (pv 1) (ae (pv 0) ak))))))))
   (aB (aW (pv 3)))))),?_⟩
  refine aP (σ:=[some (.ref r),some (.int tt),none,none,none]) rfl ?_;have d1:=D.n8;have i4:=D.o4;have lt:(bC mv mv.length).length=mv.length:=cO;have DT:=D.turn;have mwT:=DT.mw;have pwT:=DT.pw;obtain ⟨m,p,l,g,n1,n2,n3,Gm,Gp,Gl⟩:=id PQ;obtain ⟨up,gp,qp,_⟩:=id Gl;have lup:=qp.length;exists ⟨⟨_,bU.of gp⟩,?_⟩;refine cN (K:=K) (F:=cI K H0) (cI K H) id gp qp (by lia) (λa b=>a.same b) (λa b=>a.same b) ?_ ?_
  ·rintro i ns x H' NY NN en s ⟨u,rfl,_,zs,gz,qz⟩ k1;exists ⟨u,zs,rfl,.inl (bU.of gz),λl1 hl1=>?_⟩;exact k1 _ _ (aH.new hl1) ⟨l1,rfl,s.none hl1,zs,aM,Paired.imp' (λ_ _ z=>z.same (aH.new hl1)) qz⟩
  rintro ys1 H1 rq1 hr1 s1 g1 pr1 nx1;rw[jy] at pr1 nx1;have G1:bo K H H1 rq1 lk:=⟨ys1,g1,pr1,eN nx1⟩;exists c6 λsm0 H2 s2 nf gf=>?_
  have s02:=s1.trans s2;exists ⟨by lia,by lia,?_⟩;refine d5 (n:=tt) (λt σ' H'=>aH H H'/\∃rq sm y,σ'=[some (.ref r),some (.int tt),some (.ref rq),some (.ref sm),y]/\H sm=none/\bo K H H' sm (kry (bC mv mv.length) lk t)/\bo K H H' rq (lk.map (ou (bC mv mv.length) t))) ⟨s02,rq1,sm0,_,rfl,s1.none nf,⟨[],gf,.nil,λz=>nomatch z⟩,by rw[show lk.map (ou (bC mv mv.length) 0)=lk from jy lk];exact G1.same s2⟩ ?_ ?_
  ·rintro t σ' H' ht ⟨s',rq,sm,y,rfl,nsm,Gs,Gq⟩;obtain ⟨us,gu,pu,_⟩:=id Gs;obtain ⟨zs,gz,qz,_⟩:=id Gq;have lz:=qz.length;rw[ag] at lz;have lu:=pu.length;rw[vR] at lu;have lb:t*lk.length<=20*4:=aJ (by lia) i4;exists kz gu gz (aT (bO (by lia))) λcc H3 s3 nc gc=>?_
   have ek:kry (bC mv mv.length) lk (t+1)=kry (bC mv mv.length) lk t++lk.map (ou (bC mv mv.length) t):=by
    rw[<- wN,JE,List.flatten_append,wN];simp
   have Gc:bo K H H3 cc (kry (bC mv mv.length) lk (t+1)):=by
    rw[ek];exact ⟨_,gc,Paired.imp' (λ_ _ z=>cI.same z s3) (cg pu qz),eN ⟨H',nc,cg pu qz⟩⟩
   have s03:=s'.trans s3;have g3:=s03 _ _ g;exists ⟨⟨_,bU.of (s3 _ _ gz)⟩,?_⟩;refine cN (K:=K) (F:=cI K H) (cI K H) (ow (bC mv mv.length)) (s3 _ _ gz) (Paired.imp' (λ_ _ z=>cI.same z s3) qz) (by rw[ag];lia) (λa b=>a.same b) (λa b=>a.same b) ?_ ?_
   ·rintro i ns v Ha NY NN en sa ⟨u,rfl,_,Ru⟩ k1;have mn:=ar en;obtain ⟨y0,hy0,rfl⟩:=aw.mp mn;have wy:=D.lw y0 hy0;have wyT:=pwT y0 hy0;exists ⟨r,u,H0,mv,pt,lk,_,rfl,(PQ.same s03).same sa,D,Ru,by rw[En wyT,lt],λxs hx=>((AF.row mwT pwT y0 hy0).fit mwT wyT (show t<=tt by lia)).1 xs hx,λz Hj nz sj Rz=>k1 _ _ sj ⟨z,rfl,s03.none (sa.none nz),Rz⟩⟩
   ·rintro ys Hb rr hrr sb gb prb nxb;have e:(lk.map (ou (bC mv mv.length) t)).map (ow (bC mv mv.length))=lk.map (ou (bC mv mv.length) (t+1)):=by rw[fD];rfl
    rw[e] at prb nxb;exact ⟨s03.trans sb,rr,cc,_,rfl,s'.none nc,Gc.same sb,ys,gb,prb,eN nxb⟩
  ·rintro σ' H' ⟨s',rq,sm,y,rfl,nsm,Gs,Gq⟩;exists k sm H' nsm s' Gs
theorem D4:aV ["row","bottom"] ["row","bottom"] (aI rn):=by walk_at "d"
theorem pL (T:Txt K mg Z):cK P w K mg base fu 1 Z.zi Z.yQ ["row","bottom"] (Fv K):=by
 refine T.jf.F.ok D4 (λvs H Q E h=>?_) (λcdv A outer s H vs Q E hr h=>?_)
 ·obtain ⟨p,ns,M,B,rfl,_⟩:=h;rfl
 ·obtain ⟨p,ns,M,B,rfl,hp,hl,hz,hB,sB,q⟩:=h;refine ⟨_,(aB (aW (cf ["value"] ["bottom"] [1] (cp (pv 0)) (λ_=>(aN (i:=0) (show ND9 ["value","bottom"] by decide +kernel))) (λ_=>cm) (λ_=>(bT cZ (aX (m5 K (by rfl)) (pv 0) au) (bT iw (pv 1) (aX (m5 K (by rfl)) (pv 0) au))))))),?_⟩;refine aP (σ:=[some (.ref p),some (.int B)]) rfl ?_;obtain ⟨xs,gx,qx⟩:=id hp;have lx:=qx.length;exists ⟨⟨_,bU.of gx⟩,?_⟩;refine dJ (K:=K) (xs:=xs) (λi ys H'=>H'=H/\ys=(fv (ns.take i) B).map V.int) (aT (bO (by lia))) ⟨rfl,rfl⟩ (λi ys H' _ ⟨e,_⟩=>by subst e;exact bU.of gx) ?_ ?_
  ·rintro i x ys H' hx hlen ⟨rfl,rfl⟩;obtain ⟨n,en,r,rfl,hr1⟩:=cX qx hx;have nz:=hz.2.2 n (ar en);have sn:Sz 4400 n.2:=EW hz.1 nz.2.1 hz.2.1;exists fF (show oQ _ _ from ⟨by lia,sn.mono (by decide)⟩) ?_;rw[cE _ (by lia)]
   have sq:Sz 4400 (B / n.2):=sB.le (by
    rw[Q7 (by lia)];exact Nat.div_le_self ..)
   exists fF (show fQ _ _ from .inr ⟨_,_,nz.2.2,sq,by decide⟩) ?_;exact ⟨rfl,by rw[take_snoc en];simp [fv]⟩
  ·rintro ys H' hy ⟨rfl,rfl⟩ l hl';exact q l _ hl' (aH.new hl') (by rw[aM,aL (by lia)])
theorem fR:aV ["wholes","multiple","whole"] ["wholes"] (aI i8):=by walk_at "d"
theorem uQ (T:Txt K mg Z):cK P w K mg base fu 2 Z.m8 Z.m7 ["wholes"] (K4 K):=by
 refine T.iH.F.ok fR (λvs H Q E h=>?_) (λcdv A outer s H vs Q E hr h=>?_)
 ·obtain ⟨p,bs,M,rfl,_⟩:=h;rfl
 ·obtain ⟨p,bs,M,rfl,hp,hM,sM,hb,q⟩:=h
  refine ⟨_,(ax (aZ (i:=1) fR.nd rfl (Or.inl rfl) au)
   (ax (eL PassesOwn.never rfl (cp (pv 0)) (aN (i:=2) fR.nd)
    (aB (aZ (i:=1) fR.nd rfl (Or.inl rfl) (bT cZ (pv 1) (bT iw (pv 2) (cM (jc T) hr T.eZ (ae (pv 1) (ae (pv 2) ak))))))))
   (aB (aW (pv 1))))),?_⟩
  refine aP (σ:=[some (.ref p),none,none]) rfl ?_;exists ⟨⟨_,hp⟩,?_⟩;refine mJ (K:=K) (a:=p) (xs:=bs.map V.int) (λi σ' H'=>H'=H/\∃x,σ'=[some (.ref p),some (.int (yp (bs.take i) 1)),x]) ⟨rfl,none,rfl⟩ (λi σ' H' _ ⟨e,_⟩=>by subst e;exact hp) ?_ ?_
  ·rintro i x σ' H' hx ⟨rfl,y,rfl⟩;rw[aD] at hx
   obtain ⟨b,eb,rfl⟩:∃b,bs[i]?=some b/\x=.int b:=by
    cases e:bs[i]? with
    | none=>rw[e] at hx;cases hx
    | some b=>rw[e] at hx;cases hx;exact ⟨b,rfl,rfl⟩
   have b1:=hb b (ar eb);have sb:Sz 4400 b:=EW hM b1.2 sM;have ht:∀c∈bs.take i,0 < c/\c∣M:=λc hc=>hb c (bG hc)
   have msz:Sz 4400 (yp (bs.take i) 1):=EW hM (z7 (by decide) (Int.one_dvd _) ht) sM;generalize hm:yp (bs.take i) 1=m at msz ⊢;have gp:0 < g m b:=A8 (by lia);exists ⟨m,b,rfl,?_⟩;exists fF (show oQ _ _ from ⟨by lia,(Tj b1.1 sb).mono (by decide)⟩) ?_;rw[cE _ (by lia)];exists fF (show fQ _ _ from .inr ⟨_,_,msz,sb.hi (t:=m) (by lia),by decide⟩) ?_;exists ⟨rfl,_,by rw[take_snoc eb,CS,hm];rfl⟩
  ·rintro σ' H' ⟨rfl,y,rfl⟩;walk_at "w";rw[aL (by simp)];exact q
theorem xI:aV ["row"] ["row"] (aI kx):=by walk_at "d"
theorem jK (T:Txt K mg Z):cK P w K mg base fu 3 Z.qL Z.qG ["row"] (K5 K):=by
 refine T.fK.F.ok xI (λvs H Q E h=>?_) (λcdv A outer s H vs Q E hr h=>?_)
 ·obtain ⟨p,ns,M,rfl,_⟩:=h;rfl
 ·obtain ⟨p,ns,M,rfl,hp,hl,hz,q⟩:=h;refine ⟨_,(aB (aW (cM (uQ T) hr T.iH (ae (cf ["value"] [] [] (cp (pv 0)) (λ_=>(aN (i:=0) (show ND9 ["value"] by decide +kernel))) (λ_=>cm) (λ_=>(aX (m5 K (by rfl)) (pv 0) au))) ak)))),?_⟩;refine aP (σ:=[some (.ref p)]) rfl ?_;obtain ⟨xs,gx,qx⟩:=id hp;have lx:=qx.length;exists ⟨⟨_,bU.of gx⟩,?_⟩;refine dJ (K:=K) (xs:=xs) (λi ys H'=>H'=H/\ys=((ns.take i).map (·.2)).map V.int) (aT (bO (by lia))) ⟨rfl,rfl⟩ (λi ys H' _ ⟨e,_⟩=>by subst e;exact bU.of gx) ?_ ?_
  ·rintro i x ys H' hx hlen ⟨rfl,rfl⟩;obtain ⟨n,en,r,rfl,hr1⟩:=cX qx hx;exists ⟨rfl,by rw[take_snoc en];simp⟩
  ·rintro ys H' hy ⟨rfl,rfl⟩ l hl';exists ⟨l,ns.map (·.2),M,rfl,bU.of (by rw[aM,aL (by lia)]),hz.1,hz.2.1,λb hb=>?_,?_⟩
   ·obtain ⟨n,hn,rfl⟩:=aw.mp hb;exact ⟨(hz.2.2 n hn).1,(hz.2.2 n hn).2.1⟩
   ·exact q _ (aH.new hl')
theorem tE:aV ["lines","begin","place","at"] ["lines","begin","place"] (aI pz):=by walk_at "d"
theorem Cb (T:Txt K mg Z):cK P w K mg base fu 1 Z.wY Z.v8 ["lines","begin","place"] CG:=by
 refine T.nQ.F.ok tE (λvs H Q E h=>?_) (λcdv A outer s H vs Q E hr h=>?_)
 ·obtain ⟨l,p,ls,b,c,rfl,_⟩:=h;rfl
 ·obtain ⟨l,p,ls,b,c,rfl,G,l1000,b1000,hc,k1,k2⟩:=h
  refine ⟨_,(ax (eL PassesOwn.never rfl (Kb rfl T.range (ae (pv 1) (ae (bK bc (by rfl) T.len aU (ae (pv 0) ak)) ak))) (aN (i:=3) tE.nd)
    (aB (dh (bF vG (aX bZ (aX bZ (pv 0) (pv 3)) (pv 2)) au (bS _)) (aB (aW (pv 3))) cu)))
   (aB (aW Ep))),?_⟩
  refine aP (σ:=[some (.ref p),some (.int b),some (.int c),none]) rfl ?_;obtain ⟨_,xs,gx,qx⟩:=id G;have lx:=qx.length;exists ⟨_,_,rfl,.inl (bU.of gx),?_⟩;rw[<- lx];exists ⟨⟨by lia,by lia,by lia,by lia⟩,?_⟩;refine CV (lo:=(b:Int)) (n:=((ls.length:Int) - (b:Int)).toNat) (λi σ' H'=>H'=H/\(∃y,σ'=[some (.ref p),some (.int b),some (.int c),y])/\∀s,b<=s->s < b+i->dU ls s c=0) ⟨rfl,⟨_,rfl⟩,λs h1 h2=>absurd h2 (by lia)⟩ ?_ ?_
  ·rintro i σ' H' hi ⟨rfl,⟨y,rfl⟩,hz⟩;rw[show ((b:Int)+(i:Int))=((b+i:Nat):Int) by lia];obtain ⟨zs,v,ez,ev,mz,q,rfl,_,gq⟩:=fW qx (i:=b+i) (by lia);exists cA (bU.of gx) (dG ev) ?_;exists cA (bU.of gq) (Fi (hc zs mz)) ?_;walk_at "w";have ef:=Pf (c:=c) ez;by_cases e:zs.getD c 0=0
   ·rw[decide_eq_true e];exists ⟨rfl,⟨_,rfl⟩,λs h1 h2=>?_⟩;by_cases e2:s=b+i
    ·rw[e2,ef,e];rfl
    ·exact hz s h1 (by lia)
   ·rw[decide_eq_false e];exists k1 (b+i) (by lia) (by lia) (by rw[ef];exact Tb.mpr e)
  ·rintro σ' H' ⟨rfl,⟨y,rfl⟩,hz⟩;exists k2 λt h1 h2=>hz t h1 (by lia)
theorem o6:aV ["lines","at","place","before","used","by","swept"] ["lines","at","place","before"] (aI xT):=by walk_at "d"
theorem HQ (T:Txt K mg Z):cK P w K mg base fu 1 Z.Dw Z.C7 ["lines","at","place","before"] CH:=by
 refine T.uV.F.ok o6 (λvs H Q E h=>?_) (λcdv A outer s H vs Q E hr h=>?_)
 ·obtain ⟨l,p,ls,kk,c,n,b,rfl,_⟩:=h;rfl
 ·obtain ⟨l,p,ls,kk,c,n,b,rfl,hl,G,l1000,hk,hw,n1000,hc,b0,sb,hs,k⟩:=h
  refine ⟨_,(ax (aZ (i:=4) o6.nd rfl (Or.inr rfl) (aX bZ (pv 0) (pv 1)))
   (ax (aZ (i:=5) o6.nd rfl (Or.inr rfl) (aX bZ (pv 4) (pv 2)))
   (ax (gG 6 ["line"] ["used","by","place","before"] [4,5,2,3] o6.nd rfl rfl (cp (pv 0)) (λ_=>(aN (i:=0) (show ND9 ["line","used","by","place","before"] by decide +kernel) rfl (Or.inr rfl) (Or.inl rfl))) (λ_=>cm) (λ_=>(cf ["mine","yours"] ["by","line","place","before"] [2,0,3,4] (Ls K rfl T.zip (ae (pv 0) (ae (pv 1) ak))) (λ_=>(vD K 2 (c8 (aN (i:=0) (show ND9 ["mine","yours","by","line","place","before"] by decide +kernel)) (c8 (aN (i:=1) (show ND9 ["mine","yours","by","line","place","before"] by decide +kernel)) jU)))) (λ_=>cm) (λ_=>(bT iw (bT jJ (bT cZ (pv 2) (pv 0)) (bT cZ (aX (gA K (by rfl)) (pv 3) (pv 4)) (pv 1))) (pv 5))))))
   (ax (fG (pv 4) (gQ (pv 6) (pv 1) set_list))
   (aB (aW (pv 6))))))),?_⟩
  refine aP (σ:=[some (.ref p),some (.int kk),some (.int c),some (.int b),none,none,none]) rfl ?_;obtain ⟨pl,xs,gx,qx⟩:=id G;have lx:=qx.length;obtain ⟨zk,vk,ek,evk,mk,qk,rfl,qkl,gk⟩:=fW qx hk;have wk:=hw zk mk;have ek':ls.getD kk []=zk:=by rw[aa,ek];rfl
  exists cA (bU.of gx) (dG evk) ?_;exists cA (bU.of gk) (Fi (by lia)) ?_;exists ⟨⟨_,bU.of gx⟩,?_⟩;refine dJ (K:=K) (xs:=xs) (λi ys H'=>aH H H'/\Paired (JK l H') ((ls.take i).map λzs=>List.zipWith (λx y=>(zk.getD c 0*x - zs.getD c 0*y).fdiv b) zs zk) ys) (aT (bO (by lia))) ⟨aH.refl _,.nil⟩ (λi ys H' _ ⟨s,_⟩=>bU.of (s _ _ gx)) ?_ ?_
  ·rintro i v ys0 H' hx hlen ⟨s',pr⟩;obtain ⟨zs,ec,q,rfl,ql,gq⟩:=cX qx hx;have mz:=ar ec;have wz:=hw zs mz;have gq':=s' _ _ gq;have gk':=s' _ _ gk;exists ⟨⟨_,bU.of gq'⟩,⟨_,bU.of gk'⟩,?_⟩;refine Bt (K:=K) (xs:=zs.map V.int) (ws:=zk.map V.int) (λj ys H2=>aH H' H2/\ys=((List.zipWith (λx y=>(zk.getD c 0*x - zs.getD c 0*y).fdiv b) zs zk).take j).map V.int) (aT (bO (by rw[ag];lia))) (by rw[ag,ag];lia) ⟨aH.refl _,rfl⟩ (λj ys H2 _ ⟨s2,_⟩=>⟨bU.of (s2 _ _ gq'),bU.of (s2 _ _ gk')⟩) ?_ ?_
   ·rintro j v1 v2 ys H2 r h1 h2 hy ⟨s2,rfl⟩ hr
    obtain ⟨x,ex,rfl⟩:∃x,zs[j]?=some x/\V.int x=v1:=by
     rw[aD] at h1;cases e:zs[j]? with
     | none=>rw[e] at h1;cases h1
     | some x=>rw[e] at h1;exact ⟨x,rfl,cv h1⟩
    obtain ⟨y,ey,rfl⟩:∃y,zk[j]?=some y/\V.int y=v2:=by
     rw[aD] at h2;cases e:zk[j]? with
     | none=>rw[e] at h2;cases h2
     | some x=>rw[e] at h2;exact ⟨x,rfl,cv h2⟩
    have sr:aH H2 (upd H2 r (.tup [.int x,.int y])):=aH.new hr;have gr:(upd H2 r (.tup [.int x,.int y])) r=some (.tup [.int x,.int y]):=aM;generalize upd H2 r (.tup [.int x,.int y])=H3 at sr gr ⊢;have gq3:=sr _ _ (s2 _ _ gq');have sx:=hs zs mz x (ar ex);have sy:=hs zk mk y (ar ey);have s1:=hs zk mk _ (getD_in (e:=0) (show c < zk.length by lia));have s3:=hs zs mz _ (getD_in (e:=0) (show c < zs.length by lia));exists fF (show fQ _ _ from .inr ⟨_,_,s1,sx,by decide⟩) ?_;exists cA (bU.of gq3) (Fi (by lia)) ?_;exists fF (show fQ _ _ from .inr ⟨_,_,s3,sy,by decide⟩) ?_;exists fF (show oQ _ _ from ⟨b0,sb⟩) ?_;have ez:(List.zipWith (λx y=>(zk.getD c 0*x - zs.getD c 0*y).fdiv b) zs zk)[j]?=some ((zk.getD c 0*x - zs.getD c 0*y).fdiv b):=by rw[cG,ex,ey]
    exact ⟨s2.trans sr,by rw[take_snoc ez];simp⟩
   ·rintro ys H2 hy ⟨s2,rfl⟩ r hr;have sn:aH H2 (upd H2 r (.lst (((List.zipWith (λx y=>(zk.getD c 0*x - zs.getD c 0*y).fdiv b) zs zk).take (zs.map V.int).length).map V.int))):=aH.new hr;refine ⟨(s'.trans s2).trans sn,?_⟩;rw[take_snoc ec,b9];refine cg (Paired.imp' (λ_ _ z=>(JK.same z s2).same sn) pr) (.cons ⟨r,rfl,ne_old (λz=>hl (s'.none (s2.none z))) hr,?_⟩ .nil);rw[aM,aL (by rw[cJ,ag];lia)]
  ·rintro ys H1 hy ⟨s1,pr⟩ r hr;have sn:aH H1 (upd H1 r (.lst ys)):=aH.new hr;have gn:(upd H1 r (.lst ys)) r=some (.lst ys):=aM;have ly:=pr.length;rw[ag,aR] at ly;generalize upd H1 r (.lst ys)=H2 at sn gn ⊢;exists eX gn (fz (by lia)) rfl ?_;have s2:aH H1 (upd H2 r (.lst (ys.set kk (.ref qk)))):=sn.after hr;exists k r _ (s1.none hr) (s1.trans s2) ⟨ne_old (λz=>hl (s1.none z)) hr,_,aM,?_⟩;unfold GB;rw[ek'];rw[aL (by lia)] at pr;exact jH (Paired.imp' (λ_ _ z=>JK.same z s2) pr) kk ⟨qk,rfl,qkl,(s1.trans s2) _ _ gk⟩
theorem tF:aV ["lines","at","to","swapped"] ["lines","at","to"] (aI pA):=by walk_at "d"
theorem Cc (T:Txt K mg Z):cK P w K mg base fu 1 Z.wZ Z.v9 ["lines","at","to"] yJ:=by
 refine T.nR.F.ok tF (λvs H Q E h=>?_) (λcdv A outer s H vs Q E hr h=>?_)
 ·obtain ⟨l,p,ls,t,kk,rfl,_⟩:=h;rfl
 ·obtain ⟨l,p,ls,t,kk,rfl,hl,G,l1000,ht,hk,k⟩:=h
  refine ⟨_,(ax (aZ (i:=3) tF.nd rfl (Or.inl rfl) (fH wG (by rfl) T.list PyProof.Rows.boot_list (ae (pv 0) ak)))
   (ax (fG (aX bZ (pv 0) (pv 1)) (gQ (pv 3) (pv 2) set_list))
   (ax (fG (aX bZ (pv 0) (pv 2)) (gQ (pv 3) (pv 1) set_list))
   (aB (aW (pv 3)))))),?_⟩
  refine aP (σ:=[some (.ref p),some (.int t),some (.int kk),none]) rfl ?_;obtain ⟨pl,xs,gx,qx⟩:=id G;have lx:=qx.length;obtain ⟨zt,vt,et,evt,_,Ft⟩:=fW qx ht;obtain ⟨zk,vk,ek,evk,_,Fk⟩:=fW qx hk;exists ⟨p,xs,rfl,.inl (bU.of gx),λc hc=>?_⟩;have sc:aH H (upd H c (.lst xs)):=aH.new hc;have gc:(upd H c (.lst xs)) c=some (.lst xs):=aM;generalize upd H c (.lst xs)=Hc at sc gc ⊢;exists cA (bU.of (sc _ _ gx)) (dG evt) ?_;exists eX gc (fz (by lia)) rfl ?_;have s1:aH H (upd Hc c (.lst (xs.set kk vt))):=sc.after hc;have g1:(upd Hc c (.lst (xs.set kk vt))) c=some (.lst (xs.set kk vt)):=aM;generalize upd Hc c (.lst (xs.set kk vt))=H1 at s1 g1 ⊢;exists cA (bU.of (s1 _ _ gx)) (dG evk) ?_;exists eX g1 (fz (by rw[ee];lia)) rfl ?_;have s2:aH H (upd H1 c (.lst ((xs.set kk vt).set t vk))):=s1.after hc;exists k c _ hc s2 ⟨ne_old hl hc,_,aM,?_⟩;have et':ls.getD t []=zt:=by rw[aa,et];rfl
  have ek':ls.getD kk []=zk:=by rw[aa,ek];rfl
  unfold oX;rw[et',ek'];exact jH (jH (Paired.imp' (λ_ _ z=>JK.same z s2) qx) kk (JK.same Ft s2)) t (JK.same Fk s2)
theorem iY:aV ["rows","wide","lines","leads","before","place","many","at"] ["rows","wide"] (aI Eh):=by walk_at "d"
theorem LA (T:Txt K mg Z):cK P w K mg base fu 4 Z.JF Z.Jx ["rows","wide"] (Cu K):=by
 refine T.AX.F.ok iY (λvs H Q E h=>?_) (λcdv A outer s H vs Q E hr h=>?_)
 ·obtain ⟨p,n,w,H0,rows,rfl,_⟩:=h;rfl
 ·obtain ⟨p,n,w,H0,rows,rfl,G,r100,n100,hw,F,k⟩:=h
  refine ⟨_,(ax (gG 2 ["row"] [] [] iY.nd rfl rfl (cp (pv 0)) (λ_=>(aN (i:=0) (show ND9 ["row"] by decide +kernel))) (λ_=>cm) (λ_=>(cM (pL T) hr T.jf (ae (pv 0) (ae (cM (jK T) hr T.fK (ae (pv 0) ak)) ak)))))
   (ax (aZ (i:=3) iY.nd rfl (Or.inl rfl) (dD ak))
   (ax (aZ (i:=4) iY.nd rfl (Or.inl rfl) au)
   (ax (eL PassesOwn.never rfl (cy rfl T.range (ae (pv 1) ak)) (aN (i:=5) iY.nd)
    (ax (aZ (i:=6) iY.nd rfl (Or.inl rfl) (bK bc (by rfl) T.len aU (ae (pv 3) ak)))
   (ax (aZ (i:=7) iY.nd rfl (Or.inl rfl) (cM (Cb T) hr T.nQ (ae (pv 2) (ae (pv 6) (ae (pv 5) ak)))))
   (aB (dh (bF NS (pv 7) Ep (bS _)) (ax (aZ (i:=2) iY.nd rfl (Or.inl rfl) (cM (HQ T) hr T.uV (ae (cM (Cc T) hr T.nR (ae (pv 2) (ae (pv 7) (ae (pv 6) ak)))) (ae (pv 6) (ae (pv 5) (ae (pv 4) ak))))))
   (ax (aZ (i:=4) iY.nd rfl (Or.inl rfl) (aX bZ (aX bZ (pv 2) (pv 6)) (pv 5)))
   (aB (kS (AJ dM eP eO lV (pv 3) (ae (pv 5) ak)))))) cu)))))
   (aB (aW (dg (ae (jb DW (pv 2) kU (kT (bK bc (by rfl) T.len aU (ae (pv 3) ak)))) (ae (pv 3) ak))))))))),?_⟩
  refine aP (σ:=[some (.ref p),some (.int n),none,none,none,none,none,none]) rfl ?_;obtain ⟨xs,gx,qx,_⟩:=id G;obtain ⟨W,hW,W2,ent⟩:=F.ent;obtain ⟨_,_,_,_,_,_,_,_,r15,r89⟩:=id F;exists ⟨⟨_,bU.of gx⟩,?_⟩;refine cN (K:=K) (as:=rows) (F:=cI K H0) (λ(H:Hp) (zs:List Int) (v:V)=>∃q,v=V.ref q/\H q=some (.lst (zs.map V.int))) gK gx qx (by lia) (λa b=>a.same b) (λ⟨q,a,b⟩ s=>⟨q,a,s _ _ b⟩) ?_ ?_
  ·rintro i qs v H' NY NN ec s' ⟨u,rfl,_,R⟩ k1;have mx:=ar ec;obtain ⟨M,hM⟩:=F.rowM mx;obtain ⟨b1,sb⟩:=hM.bot;have lq:(qs.map nm).length<=1000:=by rw[ag,hw qs mx];lia
   exists ⟨u,_,M,rfl,R.rowK,lq,hM,λH2 s2=>?_⟩;exists ⟨u,_,M,_,rfl,(R.same s2).rowK,lq,hM,b1,sb,λr H3 n3 s3 g3=>k1 _ _ (s2.trans s3) ⟨r,rfl,g3⟩⟩
  rintro ys H1 lp0 hlp s1 g1 pr1 nx1;exists c6 λqp H2 s2 nq gq=>?_
  have G2:sX qp H2 lp0 (rows.map gK):=⟨(λz=>by rw[z,nq] at g1;cases g1),ys,s2 _ _ g1,Paired.imp' (λ_ _ ⟨q,a,b⟩=>⟨q,a,(λz=>by rw[z,nq] at b;cases b),s2 _ _ b⟩) pr1⟩;have hq0:H qp=none:=s1.none nq;have s02:=s1.trans s2;have hm:(rows.map gK).length=rows.length:=ag ..;clear g1 pr1 nx1;exists ⟨by lia,by lia,?_⟩;refine d5 (n:=n) (λP σ' H'=>aH H H'/\∃lp ls ps d y1 y2 y3,σ'=[some (.ref p),some (.int n),some (.ref lp),some (.ref qp),some (.int d),y1,y2,y3]/\H' qp=some (.lst (c4 ps))/\sX qp H' lp ls/\Dz (rows.map gK) n P ls ps d) ⟨s02,lp0,rows.map gK,[],1,_,_,_,rfl,gq,G2,Dz.start λzs hz=>by obtain ⟨x,hx,rfl⟩:=aw.mp hz;rw[oi];exact hw x hx⟩ ?_ ?_
  ·rintro P σ' H' hP ⟨s',lp,ls,ps,d,y1,y2,y3,rfl,gq',G',I⟩;have hl:=I.len;have kP:=I.el.kP;have km:=I.el.km;have lps:(c4 ps).length=ps.length:=ag ..;have hqp:H' qp≠none:=by rw[gq'];exact λz=>nomatch z
   obtain ⟨z1,z2⟩:=I.sz (r:=min rows.length n) hW ent (by lia) (by rw[hm];exact aj _) r15;have big:(16*W)^min rows.length n < 2^8999:=bB (yc W2) (eS (by decide) (by lia));exists ⟨_,_,rfl,.inl (bU.of gq'),?_⟩;rw[lps];exists ⟨qp,lp,ls,ps.length,P,rfl,G',by lia,by lia,λzs hz=>by rw[I.wide zs hz];exact hP,λt h1 h2 h3=>?_,λhz=>?_⟩
   ·exists ⟨rfl,_,rfl,?_⟩;rw[show decide (V.int (t:Int)=V.non)=false from decide_eq_false (λz=>nomatch z)];exists ⟨qp,lp,ls,t,ps.length,rfl,hqp,G',by lia,h2,by lia,λl1 Ha na sa Ga=>?_⟩;exists ⟨qp,l1,_,ps.length,P,n,d,rfl,λz=>hqp (sa.none z),Ga,by rw[xD];lia,by rw[xD];lia,Iw I.wide (by lia) h2,by lia,hP,I.d0,bB z1 big,λzs hz z hz'=>?_,λl2 Hb nb sb Gb=>?_⟩
    ·unfold oX at hz;have key:∀ys,ys∈ls->∀z∈ys,Sz 8999 z:=λys hy z hz=>bB (z2 ys hy z hz) big
     rcases cH hz with h | h
     ·rcases cH h with h | h
      ·exact key zs h z hz'
      ·rw[h] at hz';exact key _ (getD_in h2) z hz'
     ·rw[h] at hz';exact key _ (getD_in (by lia)) z hz'
    have sab:=sa.trans sb;have I2:=I.step hW ent h1 h2 h3;have hk2:ps.length < (GB (oX ls ps.length t) ps.length P d).length:=by rw[ME,xD];lia
    obtain ⟨n2,xs2,gx2,qx2⟩:=id Gb;obtain ⟨zk,vk,ek,evk,mk,qk,rfl,_,gk⟩:=fW qx2 hk2;have wk:=I2.wide zk mk;exists cA (bU.of gx2) (dG evk) ?_;exists cA (bU.of gk) (Fi (by lia)) ?_;have gqb:=sab _ _ gq';exists ⟨.inl ⟨rfl,_,bU.of gqb⟩,?_⟩;exists lQ gqb (bO (by lia)) ?_;refine ⟨(s'.trans sab).after hq0,l2,_,ps++[P],_,_,_,_,rfl,?_,Gb.upd,?_⟩
    ·rw[aM];unfold c4;rw[b9];rfl
    ·have e:(GB (oX ls ps.length t) ps.length P d).getD ps.length []=zk:=by rw[aa,ek];rfl
     rw[e] at I2;exact I2
   ·exists ⟨rfl,_,rfl,?_⟩;rw[show decide (V.non=V.non)=true from decide_eq_true rfl];exists ⟨s',lp,ls,ps,d,_,_,_,rfl,gq',G',I.skip hz⟩
  rintro σ' H' ⟨s',lp,ls,ps,d,y1,y2,y3,rfl,gq',G',I⟩;obtain ⟨R,hR⟩:=I.done hw F;have lps:(c4 ps).length=ps.length:=ag ..;obtain ⟨nl,xs',gx',qx'⟩:=id G';exists ⟨_,_,rfl,.inl (bU.of gq'),?_⟩;rw[lps];exists rR (bU.of gx') λsl H3 s3 n3 g3=>?_
  rw[MC] at g3;exists cF λt H4 s4 g4=>?_
  have s34:=s3.trans s4;exact k t sl qp R ps d _ H4 g4 (s34 _ _ gq') ⟨(λz=>by rw[z,gq'] at n3;cases n3),_,s4 _ _ g3,Paired.imp' (λ_ _ z=>JK.same z s34) (eY qx' ps.length)⟩ (s'.trans s34) hR
theorem xG:aV ["top","bottom","divisor"] ["top","bottom"] (aI Av):=by walk_at "d"
theorem yh (T:Txt K mg Z):cK P w K mg base fu 2 Z.GK Z.Gx ["top","bottom"] JX:=by
 refine T.oA.F.ok xG (λvs H Q E h=>?_) (λcdv A outer s H vs Q E hr h=>?_)
 ·obtain ⟨t,b,rfl,_⟩:=h;rfl
 ·obtain ⟨t,b,rfl,hb,hs,k⟩:=h
  refine ⟨_,(ax (aZ (i:=2) xG.nd rfl (Or.inl rfl) (cM (jc T) hr T.eZ (ae (pv 0) (ae (pv 1) ak))))
   (ax (dh (bF rW (pv 1) au (bS _)) (aB (aZ (i:=2) xG.nd rfl (Or.inl rfl) (AI uw (pv 2)))) cu)
   (aB (aW (dg (ae (bT iw (pv 0) (pv 2)) (ae (bT iw (pv 1) (pv 2)) ak))))))),?_⟩
  refine aP (σ:=[some (.int t),some (.int b),none]) rfl ?_;exists ⟨t,b,rfl,?_⟩;have hg:=A8 (t:=t) hb
  have hgs:Sz 8999 (g t b):=hs.le (by
   have h1:(g t b).natAbs=Int.gcd t b:=by unfold g;simp
   rw[h1];exact gM (by lia) (by have:=fh (a:=t) (b:=b);exact eF.mpr this |> λz=>by simpa using z))
  have hgn:g (-t) (-b)=g t b:=by unfold g;rw[Int.gcd_neg,Int.neg_gcd]
  exists gZ (λh=>?_) (λh=>?_)
  ·have hb0:b < 0:=of_decide_eq_true h;exists fF (show oQ _ _ from ⟨by lia,hgs.neg⟩) ?_;exists fF (show oQ _ _ from ⟨by lia,hgs.neg⟩) ?_;exists cF λr H' s' h'=>?_
   have e1:t.fdiv (-g t b)=lo (-t) (-b):=by
    unfold Nm.lo;rw[hgn,<- cE _ (by lia),<- Int.neg_fdiv_neg (-t),Int.neg_neg]
   have e2:b.fdiv (-g t b)=hi (-t) (-b):=by
    unfold Nm.hi;rw[hgn,<- cE _ (by lia),<- Int.neg_fdiv_neg (-b),Int.neg_neg]
   exact k r H' s' (by rw[if_pos hb0,if_pos hb0,<- e1,<- e2];exact h')
  ·have hb0:¬b < 0:=λz=>h (decide_eq_true z)
   exists fF (show oQ _ _ from ⟨by lia,hgs⟩) ?_;exists fF (show oQ _ _ from ⟨by lia,hgs⟩) ?_;exists cF λr H' s' h'=>?_
   rw[cE _ (by lia),cE _ (by lia)] at h';exact k r H' s' (by rw[if_neg hb0,if_neg hb0];exact h')
theorem Aq:aV ["rows","wide","found"] ["rows","wide"] (aI xN):=by walk_at "d"
theorem pM (T:Txt K mg Z):cK P w K mg base fu 5 Z.Dn Z.C1 ["rows","wide"] (yH K):=by
 refine T.jM.F.ok Aq (λvs H Q E h=>?_) (λcdv A outer s H vs Q E hr h=>?_)
 ·obtain ⟨p,n,w,H0,rows,rfl,_⟩:=h;rfl
 ·obtain ⟨p,n,w,H0,rows,rfl,G,r100,n100,hw,F,k⟩:=h
  refine ⟨_,(ax (aZ (i:=2) Aq.nd rfl (Or.inl rfl) (cM (LA T) hr T.AX (ae (pv 0) (ae (pv 1) ak))))
   (aB (aW (cf ["line","lead"] [] [] (zY rfl T.zip (ae (aX bY (pv 2) au) (ae (aX bY (pv 2) au) ak))) (λ_=>(vD K 2 (c8 (aN (i:=0) (show ND9 ["line","lead"] by decide +kernel) rfl (Or.inr rfl) (Or.inl rfl)) (c8 (aN (i:=1) (show ND9 ["line","lead"] by decide +kernel) rfl (Or.inr rfl) (Or.inl rfl)) jU)))) (λ_=>cm) (λ_=>(cf ["top"] ["line","lead"] [0,1] (AH K (pv 0)) (λ_=>(aN (i:=0) (show ND9 ["top","line","lead"] by decide +kernel))) (λ_=>cm) (λ_=>(cM (yh T) hr T.oA (ae (pv 0) (ae (aX (gA K (by rfl)) (pv 1) (pv 2)) ak)))))))))),?_⟩
  refine aP (σ:=[some (.ref p),some (.int n),none]) rfl ?_;obtain ⟨_,_,_,_,_,_,_,_,r15,r89⟩:=id F;exists ⟨p,n,w,H0,rows,rfl,G,r100,n100,hw,F,λt lp qp R ps d ls H1 gt gq G1 s1 S=>?_⟩;obtain ⟨lR,wR,RR⟩:=id S.rr;have hl:=S.len;obtain ⟨_,xs,gx,qx⟩:=id G1;have lx:=qx.length;have lps:(c4 ps).length=ps.length:=ag ..;have d0:(d:Rat)≠0:=λz=>S.d0 (sS z)
  have dsz:Sz 8999 d:=bB S.dsz (eS (by decide) (by lia))
  have km:ps.length<=n:=by
   rcases bV n ps.length with z | z
   ·have inc:∀j,j < ps.length->j<=ps.getD j 0:=by
     intro j
     induction j with
     | zero=>intro _;exact bL _
     | succ j ih =>
      intro hj;have:=ih (by lia);have:=RR.inc j (j+1) (by lia) hj
      lia
    have h1:=inc (ps.length - 1) (by lia);have h2:=RR.low (ps.length - 1) (by lia)
    lia
   ·exact z
  exists ⟨⟨_,bU.of gx⟩,⟨_,bU.of gq⟩,?_⟩;refine Bt (K:=K) (xs:=xs) (ws:=c4 ps) (λi ys H'=>aH H1 H'/\Paired (cI K H1 H') (R.take i) ys) (aT (bO (by lia))) (by lia) ⟨aH.refl _,.nil⟩ (λi ys H' _ ⟨s,_⟩=>⟨bU.of (s _ _ gx),bU.of (s _ _ gq)⟩) ?_ ?_
  ·rintro i v1 v2 ys H' r h1 h2 hy ⟨s,pr⟩ hr;obtain ⟨zs,ez,q,rfl,_,gq1⟩:=cX qx h1;have hi:i < ls.length:=(aF.mp ez).1;have mz:=ar ez;have wz:=S.wide zs mz
   obtain ⟨j,ej,rfl⟩:∃j:Nat,ps[i]?=some j/\V.int (j:Int)=v2:=by
    unfold c4 at h2;rw[aD] at h2;cases e:ps[i]? with
    | none=>rw[e] at h2;cases h2
    | some x=>rw[e] at h2;exact ⟨x,rfl,cv h2⟩
   have ej':ps.getD i 0=j:=by rw[aa,ej];rfl
   have jn:j < n:=by have:=RR.low i (by lia);rw[ej'] at this;exact this
   have sr:aH H' (upd H' r (.tup [.ref q,.int j])):=aH.new hr;have gr:(upd H' r (.tup [.ref q,.int j])) r=some (.tup [.ref q,.int j]):=aM;generalize upd H' r (.tup [.ref q,.int j])=H2 at sr gr ⊢;have s2:=s.trans sr;have iR:i < R.length:=by lia
   have eR:=af iR;have wRi:=wR _ (aE iR)
   have ed:zs.getD j 0=d:=by
    have h:=S.val i j;rw[Pf ez] at h;have u:=RR.unit i (by lia) i (by lia);rw[if_pos rfl,ej'] at u;rw[u,qO] at h;exact dH.mp h
   have val:∀c,((zs.getD c 0:Int):Rat)=(d:Rat)*(R[i]).getD c 0:=λc=>by
    have h:=S.val i c;rw[Pf ez] at h;rw[h];unfold br;rw[aa (l:=R),eR];rfl
   exists ⟨⟨_,bU.of (s2 _ _ gq1)⟩,?_⟩;refine dJ (K:=K) (xs:=zs.map V.int) (λc ys' H3=>aH H2 H3/\Paired (cB K H3) ((R[i]).take c) ys') (aT (bO (by rw[ag];lia))) ⟨aH.refl _,.nil⟩ (λc ys' H3 _ ⟨s3,_⟩=>bU.of ((s2.trans s3) _ _ gq1)) ?_ ?_
   ·rintro c x ys' H3 hx hlen ⟨s3,pr3⟩
    obtain ⟨z,ec,rfl⟩:∃z,zs[c]?=some z/\V.int z=x:=by
     rw[aD] at hx;cases e:zs[c]? with
     | none=>rw[e] at hx;cases hx
     | some x=>rw[e] at hx;exact ⟨x,rfl,cv hx⟩
    have hc:c < zs.length:=(aF.mp ec).1;have vc:=val c;have e1:zs.getD c 0=z:=by rw[aa,ec];rfl
    rw[e1] at vc;exists cA (bU.of ((s2.trans s3) _ _ gq1)) (Fi (by lia)) ?_;rw[ed];exists ⟨z,d,rfl,S.d0,dsz,λr4 H4 s4 g4=>?_⟩;have ec':(R[i])[c]?=some ((R[i]).getD c 0):=by rw[aa,af (show c < (R[i]).length by lia)];rfl
    refine ⟨s3.trans s4,?_⟩;rw[take_snoc ec'];refine cg (Paired.imp' (λ_ _ z=>cB.same z s4) pr3) (.cons (cB.mk g4 ?_) .nil);rcases Int.lt_or_lt_of_ne S.d0 with hd | hd
    ·rw[if_pos hd,if_pos hd];refine p9 (by lia) ?_;rw[de,de,vc];grind
    ·rw[if_neg (by lia),if_neg (by lia)];refine p9 hd ?_;rw[vc];grind
   ·rintro ys' H3 hy' ⟨s3,pr3⟩ l4 hl4;have sn:aH H3 (upd H3 l4 (.lst ys')):=aH.new hl4;refine ⟨(s2.trans s3).trans sn,?_⟩;rw[take_snoc eR];rw[aL (by rw[ag];lia)] at pr3;exact cg (Paired.imp' (λ_ _ z=>cI.same z ((sr.trans s3).trans sn)) pr) (.cons ⟨l4,rfl,(s2.trans s3).none hl4,ys',aM,Paired.imp' (λ_ _ z=>cB.same z sn) pr3⟩ .nil)
  ·rintro ys H' hy ⟨s,pr⟩ r hr;have sn:aH H' (upd H' r (.lst ys)):=aH.new hr;rw[aL (by lia)] at pr;refine k r R ps d.natAbs _ (s1.none (s.none hr)) ((s1.trans s).trans sn) ⟨ys,aM,Paired.imp' (λ_ _ z=>(cI.weak z s1).same sn) pr,eN (H0:=H1) (rows:=R) ⟨H',hr,pr⟩⟩ S.rr S.km ?_ S.dsz S.tp;have:=S.d0
   lia
theorem o3:aV ["one","other","one_bottom","other_bottom","pairs"] ["one","other"] (aI xM):=by walk_at "d"
theorem HM (T:Txt K mg Z):cK P w K mg base fu 4 Z.Dm Z.C0 ["one","other"] (DS K):=by
 refine T.uS.F.ok o3 (λvs H Q E h=>?_) (λcdv A outer s H vs Q E hr h=>?_)
 ·obtain ⟨p,q,xs,ys,rfl,_⟩:=h;rfl
 ·obtain ⟨p,q,xs,ys,rfl,hp,hq,hl,hz,⟨k1,j1,k2,j2,h1,h2,hkj⟩,kk⟩:=h
  refine ⟨_,(ax (aZ (i:=2) o3.nd rfl (Or.inl rfl) (cM (jK T) hr T.fK (ae (pv 0) ak)))
   (ax (aZ (i:=3) o3.nd rfl (Or.inl rfl) (cM (jK T) hr T.fK (ae (pv 1) ak)))
   (ax (aZ (i:=4) o3.nd rfl (Or.inl rfl) (HK rfl T.list rfl T.zip (ae (cM (pL T) hr T.jf (ae (pv 0) (ae (pv 2) ak))) (ae (cM (pL T) hr T.jf (ae (pv 1) (ae (pv 3) ak))) ak))))
   (aB (aW (cM (yh T) hr T.oA (ae (bK (MF rfl) (by rfl) T.sum PyProof.Rows.boot_sum (ae (cf ["mine","yours"] [] [] (cp (pv 4)) (λ_=>(vD K 2 (c8 (aN (i:=0) (show ND9 ["mine","yours"] by decide +kernel)) (c8 (aN (i:=1) (show ND9 ["mine","yours"] by decide +kernel)) jU)))) (λ_=>cm) (λ_=>(bT cZ (pv 0) (pv 1)))) ak)) (ae (bT cZ (pv 2) (pv 3)) ak)))))))),?_⟩
  refine aP (σ:=[some (.ref p),some (.ref q),none,none,none]) rfl ?_;obtain ⟨M,h1⟩:=h1.rowM (by lia);obtain ⟨N,h2⟩:=h2.rowM (by lia);replace hp:=hp.rowK;replace hq:=hq.rowK;replace hl:(ys.map nm).length=(xs.map nm).length:=by simpa using hl
  replace hz:(xs.map nm).length<=1000:=by simpa using hz
  obtain ⟨b1,s1⟩:=h1.bot;obtain ⟨b2,s2⟩:=h2.bot;have k2:∀r H',aH H H'->H' r=some (.tup [.int (lo (Mx (xs.map nm) (ys.map nm)) (gL (xs.map nm)*gL (ys.map nm))),.int (hi (Mx (xs.map nm) (ys.map nm)) (gL (xs.map nm)*gL (ys.map nm)))])->Q (.ref r) H':=λr H' s g=>kk r H' s (cB.mk g (Oe b1 b2))
  clear kk;generalize xs.map nm=ns at hp hq hl hz h1 h2 b1 b2 s1 s2 k2;generalize ys.map nm=ms at hp hq hl hz h1 h2 b1 b2 s1 s2 k2;have hb:0 < gL ns*gL ms:=iC b1 b2;exists ⟨p,ns,M,rfl,hp,hz,h1,λH1 t1=>?_⟩;exists ⟨q,ms,N,rfl,hq.same t1,by lia,h2,λH2 t2=>?_⟩;have u2:=t1.trans t2;exists ⟨p,ns,M,_,rfl,hp.same u2,hz,h1,b1,s1,λr1 H3 n3 t3 g3=>?_⟩;exists ⟨q,ms,N,_,rfl,(hq.same u2).same t3,by lia,h2,b2,s2,λr2 H4 n4 t4 g4=>?_⟩;exists ⟨r1,r2,_,_,rfl,bU.of (t4 _ _ g3),bU.of g4,by simp [fv,hl],λL ts H5 t5 n5 g5 pr=>?_⟩;have lt:=pr.length;have ll:(fv ns (gL ns)).length=ns.length:=by simp [fv]
  have lm:(fv ms (gL ms)).length=ns.length:=by simp [fv,hl]
  rw[BP,ag,ag,ll,lm] at lt;exists ⟨⟨_,bU.of g5⟩,?_⟩;refine dJ (K:=K) (xs:=ts) (λi ys H'=>H'=H5/\ys=((List.zipWith (λx y=>x*y) (fv ns (gL ns)) (fv ms (gL ms))).take i).map V.int) (aT (bO (by lia))) ⟨rfl,rfl⟩ (λi ys H' _ ⟨e,_⟩=>by subst e;exact bU.of g5) ?_ ?_
  ·rintro i x ys H' hx hlen ⟨rfl,rfl⟩;obtain ⟨pq,epq,T,rfl,gT⟩:=cX pr hx;obtain ⟨t,u,et,eu,rfl⟩:=MT epq;exists fF (show fQ _ _ from .inr ⟨_,_,Fn h1 b1 s1 (ar et),Fn h2 b2 s2 (ar eu),by decide⟩) ?_;have ez:(List.zipWith (λx y=>x*y) (fv ns (gL ns)) (fv ms (gL ms)))[i]?=some (t*u):=by rw[cG,et,eu]
   exact ⟨rfl,by rw[take_snoc ez];simp⟩
  ·rintro ys H' hy ⟨rfl,rfl⟩ l hl';exists ⟨l,List.zipWith (λx y=>x*y) (fv ns (gL ns)) (fv ms (gL ms)),rfl,bU.of (by rw[aM,aL (by rw[cJ];lia)]),?_⟩;exists fF (show fQ _ _ from .inr ⟨_,_,s1,s2,by decide⟩) ?_;exists ⟨_,_,rfl,by lia,(s1.mul s2).mono (by decide),λr H6 t6 g6=>?_⟩;rw[if_neg (by lia),if_neg (by lia)] at g6;exact k2 r H6 ((((u2.trans t3).trans t4).trans t5).trans ((aH.new hl').trans t6)) g6
theorem HC:aV ["grid","row"] ["grid","row"] (aI xS):=by walk_at "d"
theorem pN (T:Txt K mg Z):cK P w K mg base fu 5 Z.Dv Z.C6 ["grid","row"] (DR K):=by
 refine T.jO.F.ok HC (λvs H Q E h=>?_) (λcdv A outer s H vs Q E hr h=>?_)
 ·obtain ⟨p,q,H0,rows,ys,rfl,_⟩:=h;rfl
 ·obtain ⟨p,q,H0,rows,ys,rfl,hp,hq,hz,hl,hr1,kk⟩:=h;refine ⟨_,(aB (aW (cf ["line"] ["row"] [1] (cp (pv 0)) (λ_=>(aN (i:=0) (show ND9 ["line","row"] by decide +kernel))) (λ_=>cm) (λ_=>(cM (HM T) hr T.uS (ae (pv 0) (ae (pv 1) ak))))))),?_⟩;refine aP (σ:=[some (.ref p),some (.ref q)]) rfl ?_;obtain ⟨xs,gx,qx,_⟩:=id hp;exists ⟨⟨_,bU.of gx⟩,?_⟩;refine cN (K:=K) (F:=cI K H0) (cB K) (λxs=>cS xs ys) gx qx hz (λa b=>a.same b) (λa b=>a.same b) ?_ ?_
  ·rintro i ns x H' NY NN en s ⟨u,rfl,_,hu⟩ k;obtain ⟨e1,e2⟩:=hr1 ns (ar en);exists ⟨u,q,ns,ys,rfl,hu,hq.same s,e1.symm,by lia,e2,λr H2 s2 h2'=>k _ _ s2 h2'⟩
  ·rintro ys' H' r hr s g pr nx;exact kk r H' hr s ⟨ys',g,pr⟩
theorem BW:aV ["system","rows"] ["system","rows"] (aI o9):=by walk_at "d"
theorem Ca (T:Txt K mg Z):cK P w K mg base fu 6 Z.wV Z.vZ ["system","rows"] (CB K Z.a_System):=by
 refine T.nP.F.ok BW (λvs H Q E h=>?_) (λcdv A outer s H vs Q E hr h=>?_)
 ·obtain ⟨x,p,H0,H1,mv,pt,lk,R,rfl,_⟩:=h;rfl
 ·obtain ⟨x,p,H0,H1,mv,pt,lk,R,rfl,S,D,G,l100,wR,hf,k⟩:=h;refine ⟨_,(aB (aW (cf ["row"] ["system"] [0] (cp (pv 1)) (λ_=>(aN (i:=0) (show ND9 ["row","system"] by decide +kernel))) (λ_=>cm) (λ_=>(cM (pN T) hr T.jO (ae (NQ K (pv 1) rfl) (ae (pv 0) ak))))))),?_⟩;refine aP (σ:=[some (.ref x),some (.ref p)]) rfl ?_;obtain ⟨dx,a',b',c',gx,_,_,_,Ga,Gb,Gc⟩:=id S;have d8:=D.n8;obtain ⟨xs,gxs,qx,_⟩:=id G;exists ⟨⟨_,bU.of gxs⟩,?_⟩;refine cN (K:=K) (F:=cI K H1) (cI K H) (ow mv) gxs qx (by lia) (λa b=>a.same b) (λa b=>a.same b) ?_ ?_
  ·rintro i ns v H' NY NN en s ⟨u,rfl,_,hu⟩ k1;have mn:=ar en;exists ⟨x,Z.a_System,dx,_,_,rfl,s _ _ gx,T.cl_System,T.na_move,lZ,?_⟩;exists ⟨a',u,H0,mv,ns,rfl,Ga.same s,hu,by lia,by rw[wR ns mn];lia,λxs hx=>⟨by rw[D.mw xs hx,wR ns mn],hf xs hx ns mn⟩,λr H2 nr s2 R2=>k1 _ _ s2 ⟨r,rfl,s.none nr,R2⟩⟩
  ·rintro ys H' r hr s g pr nx;exact k r H' hr s ⟨ys,g,pr,eN nx⟩
theorem l7:aV ["system","steps","lists","rows"] ["system","steps"] (aI nE):=by walk_at "d"
theorem AO (T:Txt K mg Z):cK P w K mg base fu 7 Z.uc Z.tT ["system","steps"] (CF K Z.a_System):=by
 refine T.mC.F.ok l7 (λvs H Q E h=>?_) (λcdv A outer s H vs Q E hr h=>?_)
 ·obtain ⟨x,a,c,st,H0,mv,pt,lk,rfl,_⟩:=h;rfl
 ·obtain ⟨x,a,c,st,H0,mv,pt,lk,rfl,s1000,S,D,F,k⟩:=h
  refine ⟨_,(ax (aZ (i:=2) l7.nd rfl (Or.inl rfl) (dD (ae (dD ak) ak)))
   (ax (AB PassesOwn.never (bF Sk (bK bc (by rfl) T.len aU (ae (pv 2) ak)) (pv 1) (bS _))
    (ax (aZ (i:=3) l7.nd rfl (Or.inl rfl) (cM (pM T) hr T.jM (ae (bT kC (cY (pv 0) rfl) (cM (Ca T) hr T.nP (ae (pv 0) (ae (aX bZ (pv 2) (AI uw au)) ak)))) (ae (cY (pv 0) rfl) ak))))
   (ax (dh (bF fI (bK bc (by rfl) T.len aU (ae (pv 3) ak)) (bK bc (by rfl) T.len aU (ae (aX bZ (pv 2) (AI uw au)) ak)) (bS _)) (aB (aW (pv 2))) cu)
   (aB (kS (AJ dM eP eO lV (pv 2) (ae (pv 3) ak)))))))
   (aB (aW (pv 2))))),?_⟩
  refine aP (σ:=[some (.ref x),some (.int st),none,none]) rfl ?_;obtain ⟨dx,a',b',c',gx,_,_,_,Ga,Gb,Gc⟩:=id S;have d8:=D.n8;have i4:=D.i4;have lP:=fb (mv:=mv) (pt:=pt) rfl D.pw;exists c6 λq0 H1 s1 nq0 g1=>?_
  exists c6 λl H2 s2 nl g2=>?_
  have s02:=s1.trans s2;have nl0:H l=none:=s1.none nl;obtain ⟨Hz,eHz⟩:∃Hz,Hz=upd H l (.lst []):=⟨_,rfl⟩;have zl:Hz l≠none:=by rw[eHz,aM];exact λz=>nomatch z
  have zn:∀q,Hz q=none->H q=none/\q≠l:=λq h=>by
   have ne:q≠l:=λz=>zl (by rw[<- z];exact h)
   rw[eHz,bN ne] at h;exact ⟨h,ne⟩
  have nz:∀q,H q=none->q≠l->Hz q=none:=λq h ne=>by rw[eHz,bN ne];exact h
  clear eHz;have q0l:q0≠l:=λz=>by rw[z,nl] at g1;cases g1
  have G0:bo K Hz H2 q0 []:=⟨[],s2 _ _ g1,.nil,λz=>nomatch z⟩;exists DI (λσ' H'=>aH H H'/\∃Rs R us y,σ'=[some (.ref x),some (.int st),some (.ref l),y]/\H' l=some (.lst us)/\Paired (λR v=>∃q,v=V.ref q/\Hz q=none/\bo K Hz H' q R) (Rs++[R]) us/\BK mv pt (Rs++[R])/\Rs.length<=st) (λ_ H'=>match H' l with | some (.lst us)=>st+1 - us.length | _=>0) ⟨s02,[],[],_,_,rfl,g2,.cons ⟨q0,rfl,nz q0 nq0 q0l,G0⟩ .nil,⟨by simp,λt R e=>?_,λt R R' e e'=>?_⟩,bL _⟩ ?_
  ·have ht:=(aF.mp e).1;have:t=0:=by simpa using ht
   subst this;cases e;exact ⟨[],HF⟩
  ·have ht:=(aF.mp e').1;simp at ht
  rintro σ' Ha ⟨sa,Rs,R,us,y,rfl,gu,pa,Gw,hst⟩;have lu:=pa.length;rw[av,bH] at lu;have eR:(Rs++[R])[Rs.length]?=some R:=by rw[bW (aj _),nh];rfl
  obtain ⟨ps,RR⟩:=Gw.rr _ _ eR;have tn:Rs.length<=mv.length:=by have:=Gw.len _ _ eR;have:=RR.le;have:=RR.1;lia
  have fin:∀(Hx:Hp) (sx:aH Ha Hx) (hh:∀s,(Rs.length=st/\s=st\/Rs.length < st/\Rs.length<=s)->∃ps,aO (kry mv pt s) mv.length R ps),Q (.ref l) Hx:=λHx sx hh=>by
   refine k l (Rs++[R]) Hx nl0 (sa.trans sx) ⟨us,sx _ _ gu,Paired.imp' (λ_ _ ⟨q,e1,e2,e3⟩=>⟨q,e1,(zn q e2).1,(zn q e2).2,bo.weakN (bo.same e3 sx) λq h=>(zn q h).1⟩) pa⟩ Gw (by rw[av,bH];lia) λR2 e2 s hs=>?_
   rw[List.getLast?_concat] at e2;cases e2;rw[av,bH,Nat.add_sub_cancel] at hs;exact hh s hs
  exists ⟨_,_,rfl,.inl (bU.of gu),?_⟩;exists gZ (λh0=>?_) (λh0=>?_)
  ·have h0:=of_decide_eq_true h0;refine OP ?_
   obtain ⟨zs,gS⟩:∃zs q,us=zs++[V.ref q]/\Hz q=none/\bo K Hz Ha q R:=by
    obtain ⟨v,ev,q,rfl,e2,e3⟩:∃v,us[Rs.length]?=some v/\∃q,v=V.ref q/\Hz q=none/\bo K Hz Ha q R:=by
     have ev:=af (show Rs.length < us.length by lia);obtain ⟨R2,e2,w⟩:=cX pa ev;rw[eR] at e2;cases e2;exact ⟨_,ev,w⟩
    refine ⟨us.take Rs.length,q,?_,e2,e3⟩;rw[<- take_snoc ev,aL (by lia)]
   obtain ⟨q,rfl,zq,Gq⟩:=gS;have gxa:=sa _ _ gx;exists ⟨x,Z.a_System,dx,_,_,rfl,gxa,T.cl_System,T.na_put,oW,?_⟩;exists cA (bU.of gu) (By _ _) ?_;have wR:=RR.2.1;have lR:=RR.1;have pn:=RR.le;exists ⟨x,q,H0,Hz,mv,pt,lk,R,rfl,S.same sa,D,Gq,by lia,wR,F.fit d8 D.mw D.pw tn RR,λmr Hb nmr sb Gm=>?_⟩;obtain ⟨pv,gpv,qpv,_⟩:=Gb.same (sa.trans sb);obtain ⟨mvs,gmv,qmv,_⟩:=id Gm;have lpv:=qpv.length;have lmv:=qmv.length;rw[ag] at lmv;exists kz gpv gmv (aT (bO (by lia))) λcr Hc sc nc gc=>?_
   have sab:=sa.trans (sb.trans sc);have Gc':bo K (λ_=>none) Hc cr (pt++R.map (ow mv)):=yw (H:=Hb) (cg (Paired.imp' (λ_ _ ⟨q,e1,e2,e3⟩=>⟨q,e1,rfl,e3⟩) qpv) (Paired.imp' (λ_ _ ⟨q,e1,e2,e3⟩=>⟨q,e1,rfl,e3⟩) qmv)) sc nc gc;exists ⟨x,Z.a_System,dx,_,_,rfl,sab _ _ gx,T.cl_System,T.na_states,fk,?_⟩;exists ⟨cr,mv.length,_,_,_,rfl,Gc',by rw[av,ag];lia,by lia,λxs hx=>?_,F.step d8 D.mw D.pw tn RR,λrr R' ps' M' Hd nrr sd G' RR' pm' _ _ _=>?_⟩
   ·rcases az.mp hx with hx | hx
    ·exact D.pw xs hx
    ·obtain ⟨y,_,rfl⟩:=aw.mp hx;exact uO
   have sbd:=sb.trans (sc.trans sd);have sad:=sa.trans sbd;have K1:=vQ rfl D.mw D.pw RR RR';have gud:=sbd _ _ gu;obtain ⟨rv,grv,qrv,_⟩:=id G';have lrv:=qrv.length;have lR':=RR'.1;have pn':=RR'.le;exists ⟨_,_,rfl,.inl (bU.of grv),?_⟩;exists cA (bU.of gud) (By _ _) ?_;obtain ⟨ov,gov,qov,_⟩:=Gq.same sbd;have lov:=qov.length;exists ⟨_,_,rfl,.inl (bU.of gov),?_⟩;exists gZ (λh1=>?_) (λh1=>?_)
   ·have h1:=of_decide_eq_true h1;exists fin Hd sbd λs hs=>⟨ps,?_⟩
    obtain ⟨s',rfl⟩:∃s',s=Rs.length+s':=⟨s - Rs.length,by lia⟩;exact CT rfl D.mw D.pw RR RR' (by lia) s'
   ·have h1:¬((rv.length:Int)=ov.length):=λz=>h1 (decide_eq_true z)
    have gr:=F7 rfl D.mw D.pw RR K1;have rl:rr≠l:=λz=>by rw[z,(sb.trans sc) _ _ gu] at nrr;cases nrr
    have zc:∀q,Hc q=none->Hz q=none:=λq h=>nz q (sab.none h) (λz=>by rw[z,(sb.trans sc) _ _ gu] at h;cases h)
    exists ⟨.inl ⟨rfl,_,bU.of gud⟩,?_⟩;exists lQ gud (bO (by lia)) ?_;refine ⟨⟨sad.after nl0,Rs++[R],R',_,_,rfl,aM,cg (Paired.imp' (λ_ _ ⟨q,e1,e2,e3⟩=>⟨q,e1,e2,bo.updL (bo.same e3 sbd) gud zl (zn q e2).2⟩) pa) (.cons ⟨rr,rfl,zc rr nrr,bo.updL (G'.weakN zc) gud zl rl⟩ .nil),Gw.snoc K1 (by lia),by rw[av,bH];lia⟩,?_⟩;simp only[gu,aM,av,bH] at lu h0 ⊢
    lia
  ·have h0:¬((us.length:Int)<=st):=λz=>h0 (decide_eq_true z)
   walk_at "w"
   exact fin Ha (aH.refl _) λs hs=>⟨ps,by
    have:s=Rs.length:=by lia
    rw[this];exact RR⟩
theorem BV:aV ["system","steps"] ["system","steps"] (aI o8):=by walk_at "d"
theorem tJ (T:Txt K mg Z):cK P w K mg base fu 8 Z.wQ Z.vY ["system","steps"] (Cw K Z.a_System):=by
 refine T.jX.F.ok BV (λvs H Q E h=>?_) (λcdv A outer s H vs Q E hr h=>?_)
 ·obtain ⟨x,a,c,st,H0,mv,pt,lk,rfl,_⟩:=h;rfl
 ·obtain ⟨x,a,c,st,H0,mv,pt,lk,rfl,s1000,S,D,F,k⟩:=h;refine ⟨_,(aB (aW (aX bZ (cM (AO T) hr T.mC (ae (pv 0) (ae (pv 1) ak))) (AI uw au)))),?_⟩;refine aP (σ:=[some (.ref x),some (.int st)]) rfl ?_;exists ⟨x,a,c,st,H0,mv,pt,lk,rfl,s1000,S,D,F,λr Rs H1 nr s1 ⟨us,gu,pa⟩ Gw hl hh=>?_⟩;have lu:=pa.length;obtain ⟨Rs',R,rfl⟩:∃Rs' R,Rs=Rs'++[R]:=⟨Rs.dropLast,Rs.getLast Gw.ne,(List.dropLast_concat_getLast Gw.ne).symm⟩;rw[av,bH] at lu hl;have eR:(Rs'++[R])[Rs'.length]?=some R:=by rw[bW (aj _),nh];rfl
  obtain ⟨zs,q,rfl,zq,ql,Gq⟩:∃zs q,us=zs++[V.ref q]/\H q=none/\q≠r/\bo K H H1 q R:=by
   have ev:=af (show Rs'.length < us.length by lia);obtain ⟨R2,e2,q,e3,e4,e5,e6⟩:=cX pa ev;rw[eR] at e2;cases e2;rw[e3] at ev;refine ⟨us.take Rs'.length,q,?_,e4,e5,e6⟩;rw[<- take_snoc ev,aL (by lia)]
  obtain ⟨ps,RR⟩:=hh R (by rw[List.getLast?_concat]) st (by rw[av,bH,Nat.add_sub_cancel];lia);exists cA (bU.of gu) (By _ _) ?_;exact k q R ps H1 zq s1 Gq RR
theorem FK:aV ["many","at"] ["many","at"] (aI uE):=by walk_at "d"
theorem rX (T:Txt K mg Z):cK P w K mg base fu 1 Z.BA Z.Bg ["many","at"] (Fs K):=by
 refine T.kg.F.ok FK (λvs H Q E h=>?_) (λcdv A outer s H vs Q E hr h=>?_)
 ·obtain ⟨m,a',rfl,_⟩:=h;rfl
 ·obtain ⟨m,a',rfl,hm,k⟩:=h;refine ⟨_,(aB (aW (cf ["place"] ["at"] [1] (cy rfl T.range (ae (pv 0) ak)) (λ_=>(aN (i:=0) (show ND9 ["place","at"] by decide +kernel))) (λ_=>cm) (λ_=>(Lv (bF fI (pv 0) (pv 1) (bS _)) (mW (v:=.ref Z.a_ONE) rfl T.mg_ONE rfl) (mW (v:=.ref Z.a_NOUGHT) rfl T.mg_NOUGHT rfl)))))),?_⟩;refine aP (σ:=[some (.int m),some (.int a')]) rfl ?_;exists ⟨by lia,by lia,?_⟩;refine gD (n:=m) (cB K) (λi=>if ((i:Nat):Int)=a' then 1 else 0) hm (λa b=>a.same b) ?_ ?_
  ·rintro i H' NY NN hi s k1;exists gZ (λh0=>?_) (λh0=>?_)
   ·exists k1 _ _ (aH.refl _) (by rw[if_pos (of_decide_eq_true h0)];exact ⟨_,rfl,T.sq_ONE _⟩)
   ·exists k1 _ _ (aH.refl _) (by rw[if_neg (λz=>h0 (decide_eq_true z))];exact ⟨_,rfl,T.sq_NOUGHT _⟩)
  ·rintro ys H' l hl s g pr nx;exact k l _ hl s ⟨ys,g,pr⟩
theorem xH:aV ["row"] ["row"] (aI kv):=by walk_at "d"
theorem yi (T:Txt K mg Z):cK P w K mg base fu 1 Z.qK Z.qF ["row"] (FC K):=by
 refine T.jN.F.ok xH (λvs H Q E h=>?_) (λcdv A outer s H vs Q E hr h=>?_)
 ·obtain ⟨p,xs,j,rfl,_⟩:=h;rfl
 ·obtain ⟨p,xs,j,rfl,R,x1000,hj,hne,hz,k⟩:=h;refine ⟨_,(aB (aW (bK (Kv rfl) (by rfl) T.min PyProof.Rows.boot_min (ae (cf ["place","value"] [] [] (IY rfl T.enumerate (ae (pv 0) ak)) (λ_=>(vD K 2 (c8 (aN (i:=0) (show ND9 ["place","value"] by decide +kernel)) (c8 (aN (i:=1) (show ND9 ["place","value"] by decide +kernel)) jU)))) (λ_=>HJ (bF (Ja K (by rfl) (EN hr)) (pv 1) (mW (v:=.ref Z.a_NOUGHT) rfl T.mg_NOUGHT rfl) (bS _))) (λ_=>(pv 0))) ak)))),?_⟩;refine aP (σ:=[some (.ref p)]) rfl ?_;obtain ⟨zs,gz,qz⟩:=id R;have lz:=qz.length;exists ⟨⟨_,bU.of gz⟩,?_⟩;refine Ku (K:=K) (xs:=zs) (λi ys H'=>aH H H'/\ys=c4 (F2 xs i)) (aT (bO (by lia))) ⟨aH.refl _,rfl⟩ (λi ys H' _ ⟨s,_⟩=>bU.of (s _ _ gz)) ?_ ?_
  ·rintro i v ys H' r hx hlen ⟨s',rfl⟩ hr;obtain ⟨y,ey,ny⟩:=cX qz hx;have ey':xs.getD i 0=y:=by rw[aa,ey];rfl
   have sr:aH H' (upd H' r (.tup [.int i,v])):=aH.new hr;have gr:(upd H' r (.tup [.int i,v])) r=some (.tup [.int i,v]):=aM;generalize upd H' r (.tup [.int i,v])=H2 at sr gr ⊢;exists ⟨_,_,LX,y,0,by decide,(ny.same s').same sr,⟨_,rfl,T.sq_NOUGHT _⟩,?_⟩;by_cases e:y=0
   ·rw[decide_eq_true e];exists ⟨s'.trans sr,?_⟩;rw[z6,ey',if_neg (by simpa using e)]
   ·rw[decide_eq_false e];exists ⟨s'.trans sr,?_⟩;rw[z6,ey',if_pos e];unfold c4;rw[b9];rfl
  ·rintro ys H1 hy ⟨s1,rfl⟩ l hl;have sn:aH H1 (upd H1 l (.lst (c4 (F2 xs zs.length)))):=aH.new hl;have gn:(upd H1 l (.lst (c4 (F2 xs zs.length)))) l=some (.lst (c4 (F2 xs zs.length))):=aM;generalize upd H1 l (.lst (c4 (F2 xs zs.length)))=H2 at sn gn ⊢
   have mj:j∈F2 xs zs.length:=by
    unfold F2;exact lG.mpr ⟨nB.mpr (by lia),by simpa using hne⟩
   exists ⟨l,sE (F2 xs zs.length),rfl,bU.of (by rw[<- CP];exact gn),?_,λM hM hle=>?_⟩
   ·unfold sE;rw[ag];exact List.length_pos_of_mem mj
   ·obtain ⟨c,hc,rfl⟩:=aw.mp hM;have h1:=hle j (aw.mpr ⟨j,mj,rfl⟩);have h2:=(lG.mp hc).2
    have e:c=j:=by
     rcases dZ c j with z | z | z
     ·exact absurd (hz c z) (of_decide_eq_true h2)
     ·exact z
     ·lia
    rw[e];exact k _ (s1.trans sn)
theorem HB:aV ["rows"] ["rows"] (aI xQ):=by walk_at "d"
theorem uP (T:Txt K mg Z):cK P w K mg base fu 2 Z.Ds Z.C4 ["rows"] (FD K):=by
 refine T.mD.F.ok HB (λvs H Q E h=>?_) (λcdv A outer s H vs Q E hr h=>?_)
 ·obtain ⟨p,n,H0,R,ps,rfl,_⟩:=h;rfl
 ·obtain ⟨p,n,H0,R,ps,rfl,G,r100,n100,⟨rows,RR⟩,k⟩:=h;refine ⟨_,(aB (aW (cf ["row"] [] [] (cp (pv 0)) (λ_=>(aN (i:=0) (show ND9 ["row"] by decide +kernel))) (λ_=>cm) (λ_=>(cM (yi T) hr T.jN (ae (pv 0) ak)))))),?_⟩;refine aP (σ:=[some (.ref p)]) rfl ?_;obtain ⟨lR,wR,rr⟩:=id RR;obtain ⟨xs,gx,qx,_⟩:=id G;have lx:=qx.length;exists ⟨⟨_,bU.of gx⟩,?_⟩;refine dJ (K:=K) (xs:=xs) (λi ys H'=>aH H H'/\ys=c4 (ps.take i)) (aT (bO (by lia))) ⟨aH.refl _,rfl⟩ (λi ys H' _ ⟨s,_⟩=>bU.of (s _ _ gx)) ?_ ?_
  ·rintro i v ys H' hx hlen ⟨s',rfl⟩;obtain ⟨row,er,q,rfl,_,Rr⟩:=cX qx hx;have wr:=wR row (ar er);have hi:i < ps.length:=by have:=(aF.mp er).1;lia
   have ef:∀c,br R i c=row.getD c 0:=λc=>by unfold br;rw[aa (l:=R),er];rfl
   have ep:ps[i]?=some (ps.getD i 0):=by rw[aa,af hi];rfl
   have lowp:=rr.low i hi;have u:=rr.unit i hi i hi;rw[if_pos rfl,ef] at u;exists ⟨q,row,ps.getD i 0,rfl,Rr.same s',by lia,by lia,by rw[u];decide,λc hc=>by rw[<- ef];exact rr.lead i hi c hc,λH2 s2=>?_⟩;refine ⟨s'.trans s2,?_⟩;unfold c4;rw[take_snoc ep,b9];rfl
  ·rintro ys H1 hy ⟨s1,rfl⟩ r hr;refine k r _ (s1.none hr) (s1.trans (aH.new hr)) ?_;rw[aM,aL (by lia)]
theorem rf:aV ["rows","wide","leads"] ["rows","wide"] (aI nG):=by walk_at "d"
theorem rY (T:Txt K mg Z):cK P w K mg base fu 3 Z.uf Z.tW ["rows","wide"] (FG K):=by
 refine T.jg.F.ok rf (λvs H Q E h=>?_) (λcdv A outer s H vs Q E hr h=>?_)
 ·obtain ⟨p,n,H0,R,ps,rfl,_⟩:=h;rfl
 ·obtain ⟨p,n,H0,R,ps,rfl,G,r100,n100,RR,k⟩:=h
  refine ⟨_,(ax (aZ (i:=2) rf.nd rfl (Or.inr rfl) (cM (uP T) hr T.mD (ae (pv 0) ak)))
   (aB (aW (cf ["place"] ["leads"] [2] (cy rfl T.range (ae (pv 1) ak)) (λ_=>(aN (i:=0) (show ND9 ["place","leads"] by decide +kernel))) (λ_=>HJ (bF (BZ K (by rfl)) (pv 0) (pv 1) (by with_unfolding_all rfl))) (λ_=>(pv 0)))))),?_⟩
  refine aP (σ:=[some (.ref p),some (.int n),none]) rfl ?_;exists ⟨p,n,H0,R,ps,rfl,G,r100,n100,RR,λl H1 nl s1 g1=>?_⟩;exists ⟨by lia,by lia,?_⟩;refine mK (n:=n) (λi ys H'=>aH H1 H'/\ys=c4 (di ps i)) (aT (bO (by lia))) ⟨aH.refl _,rfl⟩ ?_ ?_
  ·rintro i ys H' hi hlen ⟨s',rfl⟩;rw[tw];exists ⟨l,c4 ps,rfl,.inl (bU.of (s' _ _ g1)),rfl,Kh,?_⟩;rw[L5];by_cases e:i∈ps
   ·rw[decide_eq_true e];exists ⟨s',?_⟩;rw[A9,if_neg (by simpa using e)]
   ·rw[decide_eq_false e,show (if true=true then !false else false)=true from rfl];exists ⟨s',?_⟩;rw[A9,if_pos e];unfold c4;rw[b9];rfl
  ·rintro ys H2 hy ⟨s2,rfl⟩ r hr;exact k r _ (s1.none (s2.none hr)) ((s1.trans s2).trans (aH.new hr)) aM
theorem BX:aV ["rows","wide"] ["rows","wide"] (aI ph):=by walk_at "d"
theorem tL (T:Txt K mg Z):cK P w K mg base fu 4 Z.wX Z.v7 ["rows","wide"] (IL K):=by
 refine T.jZ.F.ok BX (λvs H Q E h=>?_) (λcdv A outer s H vs Q E hr h=>?_)
 ·obtain ⟨p,n,H0,R,ps,rfl,_⟩:=h;rfl
 ·obtain ⟨p,n,H0,R,ps,rfl,G,r100,n100,RR,k⟩:=h;refine ⟨_,(aB (aW (cf ["place"] ["wide"] [1] (cp (cM (rY T) hr T.jg (ae (pv 0) (ae (pv 1) ak)))) (λ_=>(aN (i:=0) (show ND9 ["place","wide"] by decide +kernel))) (λ_=>cm) (λ_=>(cM (rX T) hr T.kg (ae (pv 1) (ae (pv 0) ak))))))),?_⟩;refine aP (σ:=[some (.ref p),some (.int n)]) rfl ?_;exists ⟨p,n,H0,R,ps,rfl,G,r100,n100,RR,λfr H2 nf s2 g2=>?_⟩;have fl:=ET (ps:=ps) (i:=n);exists ⟨⟨_,bU.of g2⟩,?_⟩;refine dJ (K:=K) (xs:=c4 (di ps n)) (λi ys H'=>aH H2 H'/\Paired (cI K H H') ((di ps n).take i |>.map λa=>kq n ((a:Nat):Int)) ys) (aT (bO (by rw[oz];lia))) ⟨aH.refl _,.nil⟩ (λi ys H' _ ⟨s,_⟩=>bU.of (s _ _ g2)) ?_ ?_
  ·rintro i v ys H' hx hlen ⟨s',pr⟩;obtain ⟨a,ea,rfl⟩:=EF hx;have s02:=s2.trans s';exists ⟨n,a,rfl,by lia,λr H3 nr s3 R3=>?_⟩;refine ⟨s'.trans s3,?_⟩;rw[take_snoc ea,b9];exact cg (Paired.imp' (λ_ _ z=>cI.same z s3) pr) (.cons ⟨r,rfl,s02.none nr,R3⟩ .nil)
  ·rintro ys H3 hy ⟨s3,pr⟩ r hr;rw[aL (by rw[oz];exact aj _)] at pr;have sn:aH H3 (upd H3 r (.lst ys)):=aH.new hr;have s03:=s2.trans s3;exact k r _ (s03.none hr) (s03.trans sn) ⟨ys,aM,Paired.imp' (λ_ _ z=>cI.same z sn) pr,eN (H0:=H) ⟨H3,hr,pr⟩⟩
theorem ot:aV ["system","reach"] ["system"] (aI ks):=by walk_at "d"
theorem ox (T:Txt K mg Z):cK P w K mg base fu 9 Z.qJ Z.qE ["system"] (IE K Z.a_System):=by
 refine T.hZ.F.ok ot (λvs H Q E h=>?_) (λcdv A outer s H vs Q E hr h=>?_)
 ·obtain ⟨x,a,c,H0,mv,pt,lk,rfl,_⟩:=h;rfl
 ·obtain ⟨x,a,c,H0,mv,pt,lk,rfl,S,D,KF,k⟩:=h
  refine ⟨_,(ax (aZ (i:=1) ot.nd rfl (Or.inl rfl) (cM (tJ T) hr T.jX (ae (pv 0) (ae (cY (pv 0) rfl) ak))))
   (aB (aW (dg (ae (bT kC (pv 1) (cM (tL T) hr T.jZ (ae (pv 1) (ae (cY (pv 0) rfl) ak)))) (ae (bK bc (by rfl) T.len aU (ae (pv 1) ak)) ak)))))),?_⟩
  refine aP (σ:=[some (.ref x),none]) rfl ?_;obtain ⟨dx,xa,xb,xc,gx,_⟩:=id S;have d1:=D.n8;exists ⟨x,Z.a_System,dx,_,_,rfl,gx,T.cl_System,T.na_states,fk,?_⟩;exists ⟨x,a,c,mv.length,H0,mv,pt,lk,rfl,by lia,S,D,KF,λr R ps H1 nr s1 G1 RR=>?_⟩;have gx1:=s1 _ _ gx;have lR:=RR.1;have pl:=RR.le;have fl:=ET (ps:=ps) (i:=mv.length);exists ⟨x,Z.a_System,dx,_,_,rfl,gx1,T.cl_System,T.na_states,fk,?_⟩;exists ⟨r,mv.length,H,R,ps,rfl,G1,by lia,by lia,⟨_,RR⟩,λu H2 nu s2 G2=>?_⟩;obtain ⟨us,gu,qu,_⟩:=G1.same s2;obtain ⟨vs,gv,qv,_⟩:=id G2;have lu:=qu.length;have lv:=qv.length;rw[ag] at lv;have qv':Paired (cI K H H2) _ vs:=Paired.imp' (λ_ _ ⟨q,e,n,r⟩=>⟨q,e,s1.none n,r⟩) qv;exists kz gu gv (aT (bO (by lia))) λl H3 s3 nl gl=>?_
  have s02:=s1.trans s2;have Gl:bo K H H3 l (kK R ps mv.length):=⟨_,gl,Paired.imp' (λ_ _ z=>cI.same z s3) (cg qu qv'),eN ⟨H2,nl,cg qu qv'⟩⟩;exists ⟨_,_,rfl,.inl (bU.of (s3 _ _ gu)),?_⟩;rw[show ((us.length:Nat):Int)=(ps.length:Int) by lia];exists cF λt H4 s4 g4=>?_
  exact k t l R ps H4 RR (s02.none nl) ((s02.trans s3).trans s4) g4 (Gl.same s4)
theorem Ar:aV ["grid","wide"] ["grid","wide"] (aI nF):=by walk_at "d"
theorem mh (T:Txt K mg Z):cK P w K mg base fu 1 Z.ue Z.tV ["grid","wide"] (Fu K):=by
 refine T.gW.F.ok Ar (λvs H Q E h=>?_) (λcdv A outer s H vs Q E hr h=>?_)
 ·obtain ⟨p,w,H0,rows,rfl,_⟩:=h;rfl
 ·obtain ⟨p,w,H0,rows,rfl,hp,hz,hw,hl,kk⟩:=h;refine ⟨_,(aB (aW (cf ["place"] ["grid"] [0] (cy rfl T.range (ae (pv 1) ak)) (λ_=>(aN (i:=0) (show ND9 ["place","grid"] by decide +kernel) rfl (Or.inr rfl) (Or.inl rfl))) (λ_=>cm) (λ_=>(cf ["line"] ["place"] [0] (AH K (pv 1)) (λ_=>(aN (i:=0) (show ND9 ["line","place"] by decide +kernel))) (λ_=>cm) (λ_=>(aX (gA K (by rfl)) (pv 0) (pv 1)))))))),?_⟩;refine aP (σ:=[some (.ref p),some (.int w)]) rfl ?_;exists ⟨by lia,by lia,?_⟩;refine gD (n:=w) (cI K H) (λj=>rows.map λxs=>xs.getD j 0) hw (λa b=>a.same b) ?_ ?_
  ·rintro j H1 NY NN hj s1 k1;obtain ⟨xs,gx,qx,_⟩:=hp.same s1;exists ⟨⟨_,bU.of gx⟩,?_⟩;refine cN (K:=K) (F:=cI K H0) (cB K) (λxs=>xs.getD j 0) gx qx hz (λa b=>a.same b) (λa b=>a.same b) ?_ ?_
   ·rintro i ns x H2 NY2 NN2 en s2 ⟨u,rfl,_,zs,gz,qz⟩ k2;obtain ⟨v,ev,hv⟩:=F9 qz (j:=j) (by rw[hl ns (ar en)];exact hj);exists cA (bU.of gz) ev ?_;exact k2 _ _ (aH.refl _) hv
   ·rintro ys' H2 r hr s2 g pr nx;exact k1 _ _ s2 ⟨r,rfl,s1.none hr,ys',g,pr⟩
  ·rintro ys' H1 r hr s1 g pr nx;exact kk r H1 hr s1 ⟨ys',g,pr,eN nx⟩
theorem xK:aV ["self"] ["self"] (aI eV):=by walk_at "d"
theorem yj (T:Txt K mg Z):cK P w K mg base fu 7 Z.kH Z.kG ["self"] (Ah K Z.a_System):=by
 refine T.qN.ok xK (λvs H Q E h=>?_) (λcdv A outer s H vs Q E hr h=>?_)
 ·obtain ⟨x,H0,mv,pt,lk,rfl,_⟩:=h;rfl
 ·obtain ⟨x,H0,mv,pt,lk,rfl,S,D,F,k⟩:=h;refine ⟨_,(aB (aW (zZ T.mk_System (fX T) (hr.mono (by decide)) rfl T.mg_System T.fg .nil CK (ae (cM (mh T) hr T.gW (ae (cY (pv 0) rfl) (ae (cY (pv 0) rfl) ak))) (ae (cY (pv 0) rfl) (ae (cY (pv 0) rfl) ak)))))),?_⟩;refine aP (σ:=[some (.ref x)]) rfl ?_;obtain ⟨dx,a,b,c,gx,n1,n2,n3,Ga,Gb,Gc⟩:=id S;have d1:=D.n8;exists ⟨x,Z.a_System,dx,_,_,rfl,gx,T.cl_System,T.na_move,lZ,?_⟩;exists ⟨x,Z.a_System,dx,_,_,rfl,gx,T.cl_System,T.na_states,fk,?_⟩;exists ⟨a,mv.length,H0,mv,rfl,Ga,by lia,by lia,D.mw,λt H1 nt s1 Gt=>?_⟩;have gx1:=s1 _ _ gx;exists ⟨x,Z.a_System,dx,_,_,rfl,gx1,T.cl_System,T.na_look,oj,?_⟩;exists ⟨x,Z.a_System,dx,_,_,rfl,gx1,T.cl_System,T.na_put,oW,?_⟩;walk_at "w";intro x' dx' nx ndx nex;have F':=F.turn;exact ⟨x',dx',t,c,b,H1,H,H0,H0,_,_,_,rfl,nx,ndx,nex,rfl,Gt,Gc.same s1,Gb.same s1,D.turn,F'.ok.1,F'.ok.2.1,F'.ok.2.2,λH' s' S'=>⟨rfl,k x' H' (s1.none nx) (s1.trans s') (S'.weak s1)⟩⟩
theorem Lb:aV ["one","other"] ["one","other"] (aI Ej):=by walk_at "d"
theorem LC (T:Txt K mg Z):cK P w K mg base fu 3 Z.JH Z.Jz ["one","other"] (oZ K (λx y=>x - y)):=by
 refine T.AZ.F.ok Lb (λvs H Q E h=>?_) (λcdv A outer s H vs Q E hr h=>?_)
 ·obtain ⟨p,q,a,b,c,d,rfl,hp,hq,hb,hd,sa,sb,sc,sd,k⟩:=zX h;rfl
 ·obtain ⟨p,q,a,b,c,d,rfl,hp,hq,hb,hd,sa,sb,sc,sd,k⟩:=zX h;refine ⟨_,(aB (aW (cM (yh T) hr T.oA (ae (bT jJ (bT cZ (aX bY (pv 0) au) (aX bY (pv 1) au)) (bT cZ (aX bY (pv 1) au) (aX bY (pv 0) au))) (ae (bT cZ (aX bY (pv 0) au) (aX bY (pv 1) au)) ak))))),?_⟩;refine aP (σ:=[some (.ref p),some (.ref q)]) rfl ?_;have hbd:0 < b*d:=iC hb hd;have sbd:Sz 8999 (b*d):=(sb.mul sd).mono (by decide);exists fF (show fQ _ _ from .inr ⟨_,_,sa,sd,by decide⟩) ?_;exists fF (show fQ _ _ from .inr ⟨_,_,sc,sb,by decide⟩) ?_;exists fF (show fQ _ _ from .inr ⟨_,_,sb,sd,by decide⟩) ?_;walk_at "w";exists ⟨_,_,rfl,by lia,sbd,λr H' s' h'=>?_⟩;rw[if_neg (by lia),if_neg (by lia)] at h';exact k r H' s' h'
theorem o5:aV ["rows","wide","at","answer","lead","row"] ["rows","wide","at"] (aI xP):=by walk_at "d"
theorem HN (T:Txt K mg Z):cK P w K mg base fu 4 Z.Dq Z.C3 ["rows","wide","at"] (CA K):=by
 refine T.uT.F.ok o5 (λvs H Q E h=>?_) (λcdv A outer s H vs Q E hr h=>?_)
 ·obtain ⟨p,n,a,H0,R,ps,rfl,_⟩:=h;rfl
 ·obtain ⟨p,n,a,H0,R,ps,rfl,G,r100,n100,⟨rows,RR⟩,ha,hp,hz,k⟩:=h
  refine ⟨_,(ax (aZ (i:=3) o5.nd rfl (Or.inl rfl) (cM (rX T) hr T.kg (ae (pv 1) (ae (pv 2) ak))))
   (ax (eL PassesOwn.never rfl (zY rfl T.zip (ae (cM (uP T) hr T.mD (ae (pv 0) ak)) (ae (pv 0) ak))) (yd rfl (c8 (aN (i:=4) o5.nd) (c8 (aN (i:=5) o5.nd) jU)))
    (aB (fG (cM (LC T) hr T.AZ (ae (mW (v:=.ref Z.a_NOUGHT) rfl T.mg_NOUGHT rfl) (ae (aX bZ (pv 5) (pv 2)) ak))) (gQ (pv 3) (pv 4) set_list))))
   (aB (aW (pv 3))))),?_⟩
  refine aP (σ:=[some (.ref p),some (.int n),some (.int a),none,none,none]) rfl ?_;obtain ⟨lR,wR,rr⟩:=id RR;exists ⟨n,a,rfl,by lia,λan H1 na s1 R1=>?_⟩;rw[<- NW (R:=R) (ps:=ps)] at R1;obtain ⟨vs0,g0,q0⟩:=id R1;exists ⟨p,n,H0,R,ps,rfl,G.same s1,r100,n100,⟨rows,RR⟩,λle H2 nl s2 g2=>?_⟩;have anl:le≠an:=λz=>by rw[z,g0] at nl;cases nl
  obtain ⟨rs,grs,qrs,_⟩:=id G;have lrs:=qrs.length;have lps:=oz (ps:=ps);exists ⟨⟨_,bU.of g2⟩,⟨_,bU.of ((s1.trans s2) _ _ grs)⟩,?_⟩;refine N7 (K:=K) (xs:=c4 ps) (ws:=rs) (λj σ' H'=>aH H H'/\H' le=some (.lst (c4 ps))/\∃y1 y2 vs,σ'=[some (.ref p),some (.int n),some (.int a),some (.ref an),y1,y2]/\H' an=some (.lst vs)/\Paired (cB K H') (Je R ps n a j) vs) (by lia) ⟨s1.trans s2,g2,_,_,vs0,rfl,s2 _ _ g0,Paired.imp' (λ_ _ z=>cB.same z s2) q0⟩ (λj σ' H' _ ⟨e,e2,_⟩=>⟨bU.of e2,bU.of (e _ _ grs)⟩) ?_ ?_
  ·rintro j v1 v2 σ' H' r h1 h2 ⟨s',gl,y1,y2,vs,rfl,ga,qa⟩ hr;obtain ⟨row,er,q,rfl,_,Rr⟩:=cX qrs h2;have mr:=ar er;have wr:=wR row mr;obtain ⟨pj,ej,rfl⟩:=EF h1;have hj:j < ps.length:=(aF.mp ej).1;have ejD:ps.getD j 0=pj:=by rw[aa,ej];rfl
   have pjn:pj < n:=by have:=rr.low j hj;rw[ejD] at this;exact this
   have fr:br R j a=row.getD a 0:=by unfold br;rw[aa (l:=R),er];rfl
   have sr:aH H' (upd H' r (.tup [.int pj,.ref q])):=aH.new hr;have gr:(upd H' r (.tup [.int pj,.ref q])) r=some (.tup [.int pj,.ref q]):=aM;generalize upd H' r (.tup [.int pj,.ref q])=H3 at sr gr ⊢;have s03:=s'.trans sr;obtain ⟨us,gu,qu⟩:=Rr.same s03;obtain ⟨vx,ex,nx⟩:=F9 qu (j:=a) (by lia);exists cA (bU.of gu) ex ?_;exists ⟨_,_,0,row.getD a 0,rfl,⟨_,rfl,T.sq_NOUGHT _⟩,nx,KU,hz row mr _ (getD_in (by lia)),λr4 H4 s4 n4=>?_⟩;have ga4:=(sr.trans s4) _ _ ga;have gl4:=(sr.trans s4) _ _ gl;have la:=qa.length;rw[jL] at la;exists eX ga4 (fz (by lia)) rfl ?_;refine ⟨(s03.trans s4).after na,by rw[bN anl];exact gl4,_,_,_,rfl,aM,?_⟩;rw[<- NZ RR hj hp,ejD,fr,show -(row.getD a 0)=0 - row.getD a 0 by grind];exact jH (Paired.imp' (λ_ _ z=>(cB.same z (sr.trans s4)).updL ga4) qa) pj (n4.updL ga4)
  ·rintro σ' H' ⟨s',gl,y1,y2,vs,rfl,ga,qa⟩;rw[lps] at qa;exists k an H' na s' ⟨vs,ga,qa⟩
theorem FL:aV ["rows","wide","basis"] ["rows","wide"] (aI Ei):=by walk_at "d"
theorem LB (T:Txt K mg Z):cK P w K mg base fu 6 Z.JG Z.Jy ["rows","wide"] (Cz K):=by
 refine T.AY.F.ok FL (λvs H Q E h=>?_) (λcdv A outer s H vs Q E hr h=>?_)
 ·obtain ⟨p,n,w,H0,rows,R,ps,rfl,_⟩:=h;rfl
 ·obtain ⟨p,n,w,H0,rows,R,ps,rfl,G,r100,n100,RR,F,szR,k⟩:=h
  refine ⟨_,(ax (aZ (i:=2) FL.nd rfl (Or.inr rfl) (cM (pM T) hr T.jM (ae (pv 0) (ae (pv 1) ak))))
   (aB (aW (cf ["at"] ["basis","wide"] [2,1] (cp (cM (rY T) hr T.jg (ae (pv 2) (ae (pv 1) ak)))) (λ_=>(aN (i:=0) (show ND9 ["at","basis","wide"] by decide +kernel))) (λ_=>cm) (λ_=>(cM (HN T) hr T.uT (ae (pv 1) (ae (pv 2) (ae (pv 0) ak))))))))),?_⟩
  refine aP (σ:=[some (.ref p),some (.int n),none]) rfl ?_;exists ⟨p,n,w,H0,R,rfl,G,r100,n100,RR.2.1,F,λba R2 ps2 M H1 nb s1 G1 RR2 pm M0 M1 tM=>?_⟩;obtain ⟨rfl,rfl⟩:=RR2.same (vz RR);have pn:=RR.le;have lR:=RR.1;have fl:=ET (ps:=ps2) (i:=n);exists ⟨ba,n,H,R2,ps2,rfl,G1,by lia,by lia,⟨rows,RR⟩,λfr H2 nf s2 g2=>?_⟩;exists ⟨⟨_,bU.of g2⟩,?_⟩;refine dJ (K:=K) (xs:=c4 (di ps2 n)) (λi ys H'=>aH H2 H'/\Paired (cI K H H') ((di ps2 n).take i |>.map (so R2 ps2 n)) ys) (aT (bO (by rw[oz];lia))) ⟨aH.refl _,.nil⟩ (λi ys H' _ ⟨s,_⟩=>bU.of (s _ _ g2)) ?_ ?_
  ·rintro i v ys H' hx hlen ⟨s',pr⟩;obtain ⟨a,ea,rfl⟩:=EF hx;obtain ⟨an,ap⟩:=qg.mp (ar ea);have s02:=(s1.trans s2).trans s';exists ⟨ba,n,a,H,R2,ps2,rfl,(G1.same s2).same s',by lia,by lia,⟨rows,RR⟩,an,ap,szR,λr H3 nr s3 R3=>?_⟩;refine ⟨s'.trans s3,?_⟩;rw[take_snoc ea,b9];exact cg (Paired.imp' (λ_ _ z=>cI.same z s3) pr) (.cons ⟨r,rfl,s02.none nr,R3⟩ .nil)
  ·rintro ys H3 hy ⟨s3,pr⟩ r hr;rw[aL (by rw[oz];exact aj _)] at pr;have sn:aH H3 (upd H3 r (.lst ys)):=aH.new hr;have s03:=(s1.trans s2).trans s3;exact k r _ (s03.none hr) (s03.trans sn) ⟨ys,aM,Paired.imp' (λ_ _ z=>cI.same z sn) pr,eN (H0:=H) (rows:=bA R2 ps2 n) ⟨H3,hr,pr⟩⟩
theorem qZ:aV ["system","steps","told"] ["system","steps"] (aI nD):=by walk_at "d"
theorem AN (T:Txt K mg Z):cK P w K mg base fu 9 Z.t9 Z.tS ["system","steps"] (Ag K Z.a_System):=by
 refine T.mB.F.ok qZ (λvs H Q E h=>?_) (λcdv A outer s H vs Q E hr h=>?_)
 ·obtain ⟨x,tt,e,H0,mv,pt,lk,rfl,_⟩:=h;rfl
 ·obtain ⟨x,tt,e,H0,mv,pt,lk,rfl,hT,S,D,F,UF,k⟩:=h
  refine ⟨_,(ax (aZ (i:=2) qZ.nd rfl (Or.inl rfl) (cM (tJ T) hr T.jX (ae (Lu (pv 0) T.cl_System T.oB (yj T) (hr.mono (by decide)) T.qI .nil CK) (ae (pv 1) ak))))
   (aB (aW (cM (pM T) hr T.jM (ae (cM (LB T) hr T.AY (ae (pv 2) (ae (cY (pv 0) rfl) ak))) (ae (cY (pv 0) rfl) ak)))))),?_⟩
  refine aP (σ:=[some (.ref x),some (.int tt),none]) rfl ?_;have d8:=D.n8;have et:(bC mv mv.length).length=mv.length:=cO;obtain ⟨a,c,KF,_,_⟩:=UF.kf;obtain ⟨dx,a',b',c',gx,_⟩:=id S;exists ⟨x,dx,_,rfl,gx,Hu,?_⟩;exists ⟨x,H0,mv,pt,lk,rfl,S,D,F.sf,λy H1 ny s1 S1=>?_⟩;exists ⟨y,a,c,tt,H,_,lk,pt,rfl,by lia,S1,D.turn,KF,λq R ps H2 nq s2 G2 RR=>?_⟩;have s02:=s1.trans s2;obtain ⟨⟨w1,sw⟩,szR,w2,swn,bn,q1,q10,tn⟩:=UF.sw RR;have e1:=UF.e1;rw[et] at RR sw swn bn tn;have le:=RR.le;have lR:=RR.1;have cnt:=yk RR;exists ⟨x,Z.a_System,dx,_,_,rfl,s02 _ _ gx,T.cl_System,T.na_states,fk,?_⟩;exists ⟨q,mv.length,w1,H1,_,R,ps,rfl,G2,by lia,by lia,RR,sw,szR,λr3 H3 n3 s3 G3=>?_⟩;have s03:=s02.trans s3;exists ⟨x,Z.a_System,dx,_,_,rfl,s03 _ _ gx,T.cl_System,T.na_states,fk,?_⟩;exists ⟨r3,mv.length,w2,H2,_,rfl,G3,by lia,by lia,vO,swn,λr4 Hd psd M4 H4 n4 s4 G4 RN _ M0 M1 tp=>?_⟩;have up:=ao (show 0 < 2 by decide) bn;exact k r4 Hd H4 (s03.none n4) (s03.trans s4) (G4.weakN λq h=>s03.none h) ⟨R,ps,psd,M4,RR,RN,AV RR bI q10 tn RN,M0,ai M1 up,λxs hx x hx'=>(tp xs hx x hx').mono up⟩
theorem nC:aV ["system","unseen","units"] ["system"] (aI o7):=by walk_at "d"
theorem tI (T:Txt K mg Z):cK P w K mg base fu 10 Z.wO Z.vX ["system"] (ID K Z.a_System):=by
 refine T.jW.F.ok nC (λvs H Q E h=>?_) (λcdv A outer s H vs Q E hr h=>?_)
 ·obtain ⟨x,e,H0,mv,pt,lk,rfl,_⟩:=h;rfl
 ·obtain ⟨x,e,H0,mv,pt,lk,rfl,S,D,F,UF,k⟩:=h
  refine ⟨_,(ax (aZ (i:=1) nC.nd rfl (Or.inl rfl) (cM (AN T) hr T.mB (ae (pv 0) (ae (cY (pv 0) rfl) ak))))
   (ax (aZ (i:=2) nC.nd rfl (Or.inl rfl) (cM (tL T) hr T.jZ (ae (pv 1) (ae (cY (pv 0) rfl) ak))))
   (aB (aW (dg (ae (bT kC (pv 2) (pv 1)) (ae (bK bc (by rfl) T.len aU (ae (pv 2) ak)) ak))))))),?_⟩
  refine aP (σ:=[some (.ref x),none,none]) rfl ?_;obtain ⟨dx,xa,xb,xc,gx,_⟩:=id S;have d1:=D.n8;exists ⟨x,Z.a_System,dx,_,_,rfl,gx,T.cl_System,T.na_states,fk,?_⟩;exists ⟨x,mv.length,e,H0,mv,pt,lk,rfl,by lia,S,D,F,UF,λr U H1 nr s1 G1 UE=>?_⟩;obtain ⟨R,ps,pu,M,RR,RN,_⟩:=id UE;have gx1:=s1 _ _ gx;have lU:=RN.1;have pl:=RN.le;have fl:=ET (ps:=pu) (i:=mv.length);exists ⟨x,Z.a_System,dx,_,_,rfl,gx1,T.cl_System,T.na_states,fk,?_⟩;exists ⟨r,mv.length,H,U,pu,rfl,G1,by lia,by lia,⟨_,RN⟩,λu H2 nu s2 G2=>?_⟩;obtain ⟨us,gu,qu,_⟩:=G1.same s2;obtain ⟨vs,gv,qv,_⟩:=id G2;have lu:=qu.length;have lv:=qv.length;rw[ag] at lv;have qv':Paired (cI K H H2) _ vs:=Paired.imp' (λ_ _ ⟨q,e,n,r⟩=>⟨q,e,s1.none n,r⟩) qv;exists kz gv gu (aT (bO (by lia))) λl H3 s3 nl gl=>?_
  have s02:=s1.trans s2;have Gl:bo K H H3 l (qC U pu mv.length):=⟨_,gl,Paired.imp' (λ_ _ z=>cI.same z s3) (cg qv' qu),eN ⟨H2,nl,cg qv' qu⟩⟩;exists ⟨_,_,rfl,.inl (bU.of (s3 _ _ gv)),?_⟩;rw[show ((vs.length:Nat):Int)=((di pu mv.length).length:Int) by lia];exists cF λt H4 s4 g4=>?_
  exact k t l R ps U pu H4 RR RN (s02.none nl) ((s02.trans s3).trans s4) g4 (Gl.same s4)
theorem D3:aV ["many"] ["many"] (aI rk):=by walk_at "d"
theorem Et (T:Txt K mg Z):cK P w K mg base fu 2 Z.zh Z.yP ["many"] (JV K):=by
 refine T.pS.F.ok D3 (λvs H Q E h=>?_) (λcdv A outer s H vs Q E hr h=>?_)
 ·obtain ⟨m,rfl,_⟩:=h;rfl
 ·obtain ⟨m,rfl,hm,k⟩:=h;refine ⟨_,(aB (aW (cf ["at"] ["many"] [0] (cy rfl T.range (ae (pv 0) ak)) (λ_=>(aN (i:=0) (show ND9 ["at","many"] by decide +kernel))) (λ_=>cm) (λ_=>(cM (rX T) hr T.kg (ae (pv 1) (ae (pv 0) ak))))))),?_⟩;refine aP (σ:=[some (.int m)]) rfl ?_;exists ⟨by lia,by lia,?_⟩;refine gD (n:=m) (cI K H) (λi=>kq m i) hm (λa b=>a.same b) ?_ ?_
  ·rintro i H' NY NN hi s k1;exists ⟨m,i,rfl,hm,λr H2 n2 s2 h2=>k1 _ _ s2 ⟨r,rfl,s.none n2,h2⟩⟩
  ·rintro ys H' l hl s g pr nx;exact k l _ hl s ⟨ys,g,pr,eN nx⟩
theorem uC:aV ["grid","many","joined"] ["grid"] (aI xR):=by walk_at "d"
theorem HP (T:Txt K mg Z):cK P w K mg base fu 6 Z.Dt Z.C5 ["grid"] (yI K):=by
 refine T.uU.F.ok uC (λvs H Q E h=>?_) (λcdv A outer s H vs Q E hr h=>?_)
 ·obtain ⟨p,n,w,H0,A,rfl,_⟩:=h;rfl
 ·obtain ⟨p,n,w,H0,A,rfl,G,SA,n40,F,k1,k2⟩:=h
  refine ⟨_,(ax (aZ (i:=1) uC.nd rfl (Or.inr rfl) (bK bc (by rfl) T.len aU (ae (pv 0) ak)))
   (ax (aZ (i:=2) uC.nd rfl (Or.inl rfl) (cM (pM T) hr T.jM (ae (cf ["row","unit"] [] [] (zY rfl T.zip (ae (pv 0) (ae (cM (Et T) hr T.pS (ae (pv 1) ak)) ak))) (λ_=>(vD K 2 (c8 (aN (i:=0) (show ND9 ["row","unit"] by decide +kernel)) (c8 (aN (i:=1) (show ND9 ["row","unit"] by decide +kernel)) jU)))) (λ_=>cm) (λ_=>(bT kC (pv 0) (pv 1)))) (ae (bT cZ au (pv 1)) ak))))
   (ax (dh (bF (yg (EN hr)) (cM (uP T) hr T.mD (ae (pv 2) ak)) (Er rfl T.list rfl T.range (ae (pv 1) ak)) (bS _)) (aB (aW Ep)) cu)
   (aB (aW (cf ["row"] ["many"] [1] (cp (pv 2)) (λ_=>(aN (i:=0) (show ND9 ["row","many"] by decide +kernel))) (λ_=>cm) (λ_=>(jb (l5 K (by rfl)) (pv 0) (kT (pv 1)) kU)))))))),?_⟩
  refine aP (σ:=[some (.ref p),none,none]) rfl ?_;obtain ⟨lA,wA⟩:=id SA;obtain ⟨xs,gx,qx,_⟩:=id G;have lx:=qx.length;obtain ⟨lU,wU⟩:=xx (n:=n);have lj:(nZ A (cW n)).length=n:=by rw[yr (by lia),lA]
  exists ⟨_,_,rfl,.inl (bU.of gx),?_⟩;rw[show ((xs.length:Nat):Int)=((n:Nat):Int) by lia];exists ⟨n,rfl,by lia,λu H1 nu s1 U1=>?_⟩;obtain ⟨us,gu,qu,_⟩:=id U1;have lu:=qu.length;exists ⟨⟨_,bU.of (s1 _ _ gx)⟩,⟨_,bU.of gu⟩,?_⟩;refine Bt (K:=K) (xs:=xs) (ws:=us) (λi ys H'=>aH H1 H'/\Paired (cI K H H') ((nZ A (cW n)).take i) ys) (aT (bO (by lia))) (by lia) ⟨aH.refl _,.nil⟩ (λi ys H' _ ⟨s,_⟩=>⟨bU.of (s _ _ (s1 _ _ gx)),bU.of (s _ _ gu)⟩) ?_ ?_
  ·rintro i v1 v2 ys H' r h1 h2 hy ⟨s,pr⟩ hr;obtain ⟨row,er,a1,rfl,_,Ra⟩:=cX qx h1;obtain ⟨un,eu,a2,rfl,_,Ru⟩:=cX qu h2;have wr:=wA row (ar er);have wn:=wU un (ar eu);have sr:aH H' (upd H' r (.tup [.ref a1,.ref a2])):=aH.new hr;have gr:(upd H' r (.tup [.ref a1,.ref a2])) r=some (.tup [.ref a1,.ref a2]):=aM;generalize upd H' r (.tup [.ref a1,.ref a2])=H2 at sr gr ⊢;have s2:=s.trans sr;obtain ⟨zs,gz,qz⟩:=Ra.same (s1.trans s2);obtain ⟨ys',gy,qy⟩:=Ru.same s2;have lz:=qz.length;have ly:=qy.length;exists kz gz gy (aT (bO (by lia))) λl2 H4 s4 n4 g4=>?_
   refine ⟨s2.trans s4,?_⟩;rw[take_snoc (L0 er eu)];exact cg (Paired.imp' (λ_ _ z=>cI.same z (sr.trans s4)) pr) (.cons ⟨l2,rfl,(s1.trans s2).none n4,_,g4,Paired.imp' (λ_ _ z=>cB.same z s4) (cg qz qy)⟩ .nil)
  rintro ys H2 hy ⟨s2,pr⟩ l hl;have sn:aH H2 (upd H2 l (.lst ys)):=aH.new hl;have gn:(upd H2 l (.lst ys)) l=some (.lst ys):=aM;rw[aL (by lia)] at pr;generalize upd H2 l (.lst ys)=H3 at sn gn ⊢;have GJ:bo K H H3 l (nZ A (cW n)):=yw pr sn hl gn;have s03:=s1.trans (s2.trans sn);walk_at "w";rw[show (2*(n:Int))=((n+n:Nat):Int) by lia];refine ⟨l,n+n,w,H,_,rfl,GJ,by lia,by lia,EM wA wU,F,λjd R ps M H4 nj s4 G4 RR pm M0 M1 tM=>?_⟩;rw[lj,show min n (n+n)=n by lia] at M1 tM;rw[lj] at pm;have s04:=s03.trans s4;have lR:=RR.1;have wR:=RR.2.1;exists ⟨jd,n+n,H3,R,ps,rfl,G4,by lia,by lia,⟨_,RR⟩,λle H5 nle s5 g5=>?_⟩;walk_at "w";unfold Ad;exists ⟨by lia,λrl H6 s6 n6 g6=>?_⟩;have s06:=(s04.trans s5).trans s6;exists ⟨_,_,Kk Kl,sE ps,sE (List.range n),by decide,tm (s6 _ _ g5),tm g6,?_⟩;by_cases e:ps=List.range n
  ·subst e;rw[decide_eq_true rfl];obtain ⟨vs,gv,qv,_⟩:=G4.same (s5.trans s6);have lv:=qv.length;rw[bX] at lR;exists ⟨⟨_,bU.of gv⟩,?_⟩;refine dJ (K:=K) (xs:=vs) (λi ys H'=>aH H6 H'/\Paired (cI K H H') ((R.map λxs=>xs.drop n).take i) ys) (aT (bO (by lia))) ⟨aH.refl _,.nil⟩ (λi ys H' _ ⟨s,_⟩=>bU.of (s _ _ gv)) ?_ ?_
   ·rintro i v ys H' hx hlen ⟨s',pr⟩;obtain ⟨row,er,q,rfl,_,Rr⟩:=cX qv hx;have wr:=wR row (ar er);obtain ⟨zs,gz,qz⟩:=Rr.same s';have lz:=qz.length;exists rR (bU.of gz) λl3 H8 s8 n8 g8=>?_
    rw[MD] at g8;refine ⟨s'.trans s8,?_⟩;rw[take_snoc (show (R.map λxs=>xs.drop n)[i]?=some (row.drop n) by rw[aD,er];rfl)];exact cg (Paired.imp' (λ_ _ z=>cI.same z s8) pr) (.cons ⟨l3,rfl,s06.none (s'.none n8),_,g8,Paired.imp' (λ_ _ z=>cB.same z s8) (tH qz n)⟩ .nil)
   rintro ys3 H7 hy3 ⟨s7,pr3⟩ l3 hl3;have sn3:aH H7 (upd H7 l3 (.lst ys3)):=aH.new hl3;rw[aL (by rw[ag];lia)] at pr3;have s07:=s06.trans s7;refine k1 l3 R M _ RR (s07.none hl3) (s07.trans sn3) (yw pr3 sn3 hl3 aM) M0 M1 λxs hx x hx'=>?_
   obtain ⟨y,hy,rfl⟩:=aw.mp hx;exact tM y hy x (DF hx')
  ·rw[decide_eq_false (λz=>e (Gh z))];exists k2 R ps H6 RR pm e s06
theorem tD:aV ["one","other","wide","columns"] ["one","other","wide"] (aI pe):=by walk_at "d"
theorem tK (T:Txt K mg Z):cK P w K mg base fu 6 Z.wW Z.v5 ["one","other","wide"] (Ao K):=by
 refine T.jY.F.ok tD (λvs H Q E h=>?_) (λcdv A outer s H vs Q E hr h=>?_)
 ·obtain ⟨p,q,w,H0,H1,one,other,rfl,_⟩:=h;rfl
 ·obtain ⟨p,q,w,H0,H1,one,other,rfl,hp,hq,z1,z2,hw,h1,h2,kk⟩:=h
  refine ⟨_,(ax (aZ (i:=3) tD.nd rfl (Or.inr rfl) (cM (mh T) hr T.gW (ae (pv 1) (ae (pv 2) ak))))
   (aB (aW (cf ["line"] ["columns"] [3] (cp (pv 0)) (λ_=>(aN (i:=0) (show ND9 ["line","columns"] by decide +kernel))) (λ_=>cm) (λ_=>(cM (pN T) hr T.jO (ae (pv 1) (ae (pv 0) ak)))))))),?_⟩
  refine aP (σ:=[some (.ref p),some (.ref q),some (.int w),none]) rfl ?_;exists ⟨q,w,H1,other,rfl,hq,z2,hw,h2,λc H2 nc s2 hc=>?_⟩;obtain ⟨xs,gx,qx,_⟩:=hp.same s2;exists ⟨⟨_,bU.of gx⟩,?_⟩;refine cN (K:=K) (F:=cI K H0) (cI K H) (λxs=>(bC other w).map λys=>cS ys xs) gx qx z1 (λa b=>a.same b) (λa b=>a.same b) ?_ ?_
  ·rintro i ns x H3 NY NN en s3 ⟨u,rfl,_,hu⟩ k;obtain ⟨e1,e2⟩:=h1 ns (ar en);exists ⟨c,u,H,bC other w,ns,rfl,hc.same s3,hu,by simp [bC];lia,by lia,λys hy=>⟨?_,e2 ys hy⟩,λr H4 nr s4 hr=>k _ _ s4 ⟨r,rfl,s2.none (s3.none nr),hr⟩⟩;obtain ⟨j,_,rfl⟩:=aw.mp hy;rw[ag];exact e1.symm
  ·rintro ys' H3 r hr s3 g pr nx;exact kk r H3 (s2.none hr) (s2.trans s3) ⟨ys',g,pr,eN nx⟩
theorem iK:aV ["system","rows","wide","to_state","to_numbers","move","put"] ["system","rows"] (aI uG):=by walk_at "d"
theorem yL (T:Txt K mg Z):cK P w K mg base fu 7 Z.BC Z.Bi ["system","rows"] (FF K Z.a_System):=by
 refine T.mZ.F.ok iK (λvs H Q E h=>?_) (λcdv A outer s H vs Q E hr h=>?_)
 ·obtain ⟨x,r,w,H0,H1,mv,pt,lk,rows,inv,rfl,_⟩:=h;rfl
 ·obtain ⟨x,r,w,H0,H1,mv,pt,lk,rows,inv,rfl,S,D,G,hR,sw,iv,hi,F,kQ⟩:=h
  refine ⟨_,(ax (aZ (i:=2) iK.nd rfl (Or.inl rfl) (cY (pv 0) rfl))
   (ax (aZ (i:=3) iK.nd rfl (Or.inl rfl) (cM (mh T) hr T.gW (ae (pv 1) (ae (pv 2) ak))))
   (ax (aZ (i:=4) iK.nd rfl (Or.inr rfl) (cM (HP T) hr T.uU (ae (pv 3) ak)))
   (ax (dh (bF Qq (pv 4) Ep (bS _)) (aB IX) cu)
   (ax (aZ (i:=5) iK.nd rfl (Or.inl rfl) (cM (tK T) hr T.jY (ae (cM (tK T) hr T.jY (ae (pv 4) (ae (cY (pv 0) rfl) (ae (pv 2) ak)))) (ae (pv 3) (ae (pv 2) ak)))))
   (ax (gG 6 ["row"] ["to_numbers"] [4] iK.nd rfl rfl (cp (cY (pv 0) rfl)) (λ_=>(aN (i:=0) (show ND9 ["row","to_numbers"] by decide +kernel))) (λ_=>cm) (λ_=>(cM (pN T) hr T.jO (ae (pv 1) (ae (pv 0) ak)))))
   (aB (aW (zZ T.mk_System (fX T) (hr.mono (by decide)) rfl T.mg_System T.fg .nil CK (ae (pv 5) (ae (pv 6) (ae (cf ["row"] ["rows"] [1] (cp (cY (pv 0) rfl)) (λ_=>(aN (i:=0) (show ND9 ["row","rows"] by decide +kernel))) (λ_=>cm) (λ_=>(cM (pN T) hr T.jO (ae (pv 1) (ae (pv 0) ak))))) ak)))))))))))),?_⟩
  refine aP (σ:=[some (.ref x),some (.ref r),none,none,none,none,none]) rfl ?_;obtain ⟨dx,xa,xb,xc,gx,n1,n2,n3,Ga,Gb,Gc⟩:=id S;have d1:=D.n8;have d2:=D.i4;have d3:=D.o4;have lr:=hR.1;exists ⟨x,Z.a_System,dx,_,_,rfl,gx,T.cl_System,T.na_states,fk,?_⟩;exists ⟨r,mv.length,H1,rows,rfl,G,by lia,by lia,hR.2,λt H2 n2' s2 Gt=>?_⟩;exists ⟨t,mv.length,w,H,bC rows mv.length,rfl,Gt,oh hR,by lia,sw,λi R M H3 RR ni s3 Gi M0 M1' tp=>?_,λR ps H3 RR _ ne s3=>absurd (iv R ps RR).1 ne⟩;rw[(iv _ _ RR).2] at Gi;have D':=qd D hi hR;have li:=hi.1;have s13:=s2.trans s3;have gx3:=s13 _ _ gx;have Ga3:=Ga.same s13;exists ⟨rfl,?_⟩;rw[decide_eq_false (λz=>nomatch z)];exists ⟨x,Z.a_System,dx,_,_,rfl,gx3,T.cl_System,T.na_move,lZ,?_⟩;exists ⟨i,xa,mv.length,H2,H0,inv,mv,rfl,Gi,Ga3,by lia,by lia,by lia,λxs hx=>⟨hi.2 xs hx,λys hy=>F.f1 xs hx ys hy⟩,D.mw,λm1 H4 n4 s4 G4=>?_⟩;exists ⟨m1,t,mv.length,H3,H,gO inv mv mv.length,bC rows mv.length,rfl,G4,(Gt.same s3).same s4,by unfold gO;rw[ag];lia,by rw[cO];lia,by lia,λxs hx=>⟨by rw[OA xs hx,cO],F.f2 xs hx⟩,(oh hR).2,λm2 H5 n5 s5 G5=>?_⟩;have s35:=s4.trans s5;have s15:=s13.trans s35;have gx5:=s15 _ _ gx;have Gi5:=Gi.same s35;obtain ⟨bs,gb,qb,_⟩:=Gb.same s15;have lb:=qb.length;exists ⟨x,Z.a_System,dx,_,_,rfl,gx5,T.cl_System,T.na_put,oW,?_⟩;exists ⟨⟨_,bU.of gb⟩,?_⟩;refine cN (K:=K) (as:=pt) (F:=cI K H0) (cI K H5) (λxs=>inv.map λr=>cS r xs) gb qb (by lia) (λa b=>a.same b) (λa b=>a.same b) ?_ ?_
  ·rintro j xs y H6 NY NN ex s6 ⟨u,rfl,_,Ru⟩ k1;have mx:=ar ex;exists ⟨i,u,H2,inv,xs,rfl,Gi5.same s6,Ru,by lia,by rw[D.pw xs mx];lia,λzs hz=>⟨by rw[hi.2 zs hz,D.pw xs mx],F.f3 xs mx zs hz⟩,λv H7 n7 s7 R7=>?_⟩;exact k1 _ _ s7 ⟨v,rfl,s6.none n7,R7⟩
  rintro ysP H6 pp np s6 gp prp nxp;have Gp:bo K H5 H6 pp (mI inv pt):=⟨ysP,gp,prp,eN nxp⟩;clear gp prp nxp gb qb lb;have s16:=s15.trans s6;have gx6:=s16 _ _ gx;obtain ⟨cs,gc,qc,_⟩:=Gc.same s16;have lc:=qc.length;exists ⟨x,Z.a_System,dx,_,_,rfl,gx6,T.cl_System,T.na_look,oj,?_⟩;exists ⟨⟨_,bU.of gc⟩,?_⟩;refine cN (K:=K) (as:=lk) (F:=cI K H0) (cI K H6) (λxs=>rows.map λr=>cS r xs) gc qc (by lia) (λa b=>a.same b) (λa b=>a.same b) ?_ ?_
  ·rintro j xs y H7 NY NN ex s7 ⟨u,rfl,_,Ru⟩ k1;have mx:=ar ex;exists ⟨r,u,H1,rows,xs,rfl,(G.same s16).same s7,Ru,by lia,by rw[D.lw xs mx];lia,λzs hz=>⟨by rw[hR.2 zs hz,D.lw xs mx],F.f4 xs mx zs hz⟩,λv H8 n8 s8 R8=>?_⟩;exact k1 _ _ s8 ⟨v,rfl,s7.none n8,R8⟩
  rintro ysL H7 ll nl s7 gl prl nxl;have Gl:bo K H6 H7 ll (lk.map λxs=>rows.map λr=>cS r xs):=⟨ysL,gl,prl,eN nxl⟩;clear gl prl nxl gc qc lc;have s17:=s16.trans s7;walk_at "w";intro z' dz nz ndz nez;exact ⟨z',dz,m2,pp,ll,H7,H4,H5,H6,_,_,_,rfl,nz,ndz,nez,rfl,(G5.same s6).same s7,Gp.same s7,Gl,D',F.g1,F.g2,F.g3,λH9 s9 S9=>⟨rfl,kQ z' H9 (s17.trans s9) (S9.weak s17)⟩⟩
theorem zM:aV ["rows","many"] ["rows","many"] (aI ma):=by walk_at "d"
theorem kD (T:Txt K mg Z):cK P w K mg base fu 1 Z.sU Z.sO ["rows","many"] (IM K):=by
 refine T.fZ.F.ok zM (λvs H Q E h=>?_) (λcdv A outer s H vs Q E hr h=>?_)
 ·obtain ⟨p,m,H0,rows,rfl,_⟩:=h;rfl
 ·obtain ⟨p,m,H0,rows,rfl,G,r100,wm,k⟩:=h;refine ⟨_,(aB (aW (cf ["row"] ["many"] [1] (cp (pv 0)) (λ_=>(aN (i:=0) (show ND9 ["row","many"] by decide +kernel))) (λ_=>cm) (λ_=>(jb (l5 K (by rfl)) (pv 0) kU (kT (pv 1))))))),?_⟩;refine aP (σ:=[some (.ref p),some (.int m)]) rfl ?_;obtain ⟨vs,gv,qv,_⟩:=id G;have lv:=qv.length;exists ⟨⟨_,bU.of gv⟩,?_⟩;refine cN (K:=K) (as:=rows) (F:=cI K H0) (cI K H) (λxs=>xs.take m) gv qv (by lia) (λa b=>a.same b) (λa b=>a.same b) ?_ ?_
  ·rintro j xs x Ha NY NN ex sa ⟨u,rfl,_,zs,gz,qz⟩ k1;have wx:=wm xs (ar ex);have lz:=qz.length;exists rR (bU.of gz) λl1 Hb sb nb gb=>?_
   rw[uZ (by lia)] at gb;exact k1 _ _ sb ⟨l1,rfl,sa.none nb,_,gb,Paired.imp' (λ_ _ z=>cB.same z sb) (eY qz m)⟩
  ·rintro ys Hb t ht sb g pr nx;exact k t Hb ht sb ⟨ys,g,pr,eN nx⟩
theorem uB:aV ["system","found","whole","many"] ["system","found"] (aI xO):=by walk_at "d"
theorem AQ (T:Txt K mg Z):cK P w K mg base fu 8 Z.Dp Z.C2 ["system","found"] (IH K Z.a_System):=by
 refine T.pU.F.ok uB (λvs H Q E h=>?_) (λcdv A outer s H vs Q E hr h=>?_)
 ·obtain ⟨x,t,l,w,m,H0,H1,mv,pt,lk,rows,inv,rfl,_⟩:=h;rfl
 ·obtain ⟨x,t,l,w,m,H0,H1,mv,pt,lk,rows,inv,rfl,gt,I,k⟩:=h
  refine ⟨_,(ax (aZ (i:=2) uB.nd rfl (Or.inl rfl) (cM (yL T) hr T.mZ (ae (pv 0) (ae (aX bY (pv 1) au) ak))))
   (ax (aZ (i:=3) uB.nd rfl (Or.inl rfl) (aX bY (pv 1) au))
   (aB (aW (zZ T.mk_System (fX T) (hr.mono (by decide)) rfl T.mg_System T.fg .nil CK (ae (cM (kD T) hr T.fZ (ae (jb (l5 K (by rfl)) (cY (pv 2) rfl) kU (kT (pv 3))) (ae (pv 3) ak))) (ae (cM (kD T) hr T.fZ (ae (cY (pv 2) rfl) (ae (pv 3) ak))) (ae (cM (kD T) hr T.fZ (ae (cY (pv 2) rfl) (ae (pv 3) ak))) ak)))))))),?_⟩
  refine aP (σ:=[some (.ref x),some (.ref t),none,none]) rfl ?_;obtain ⟨S,D,G,hR,sw,iv,hi,F,mn⟩:=I;have n8:=D.n8;have i4:=D.i4;have o4:=D.o4;have D':=qd D hi hR;have lM:=fA (mv:=mv) (rows:=rows) hi;have DC:=sQ D' (m:=m) (by lia);exists ⟨x,l,w,H0,H1,mv,pt,lk,rows,inv,rfl,S,D,G,hR,sw,iv,hi,F,λz H2 s2 S2=>?_⟩;obtain ⟨dz,za,zb,zc,gz,n1,n2,n3,Ga,Gb,Gc⟩:=id S2;obtain ⟨ms,gm,qm,_⟩:=id Ga;have lm:=qm.length;have gt2:=s2 _ _ gt;exists ⟨z,Z.a_System,dz,_,_,rfl,gz,T.cl_System,T.na_move,lZ,?_⟩;exists rR (bU.of gm) λl1 H3 s3 nl1 g3=>?_
  rw[uZ (by lia)] at g3;have G3:bo K H H3 l1 ((k6 inv mv rows mv.length).take m):=⟨_,g3,Paired.imp' (λ_ _ z=>cI.same z s3) (eY qm m),eN ⟨H2,nl1,eY qm m⟩⟩;exists ⟨l1,m,H,_,rfl,G3,by rw[aR];lia,λxs hx=>by rw[D'.mw xs (bG hx),lM];exact mn,λq1 H4 n4 s4 G4=>?_⟩;have s24:=s3.trans s4;have gz4:=s24 _ _ gz;exists ⟨z,Z.a_System,dz,_,_,rfl,gz4,T.cl_System,T.na_put,oW,?_⟩;exists ⟨zb,m,H,_,rfl,Gb.same s24,by have:=D'.i4;lia,λxs hx=>by rw[D'.pw xs hx,lM];exact mn,λq2 H5 n5 s5 G5=>?_⟩;have s25:=s24.trans s5;have gz5:=s25 _ _ gz;exists ⟨z,Z.a_System,dz,_,_,rfl,gz5,T.cl_System,T.na_look,oj,?_⟩;exists ⟨zc,m,H,_,rfl,Gc.same s25,by have:=D'.o4;lia,λxs hx=>by rw[D'.lw xs hx,lM];exact mn,λq3 H6 n6 s6 G6=>?_⟩;have s06:=s2.trans (s25.trans s6);walk_at "w";intro z' dz' nz ndz nez;exact ⟨z',dz',q1,q2,q3,H6,H3,H4,H5,_,_,_,rfl,nz,ndz,nez,rfl,(G4.same s5).same s6,G5.same s6,G6,DC,yy (Iu F.g1),yy F.g2,yy F.g3,λH9 s9 S9=>⟨rfl,k z' H9 (s06.trans s9) (S9.weak s06)⟩⟩
theorem zL:aV ["system"] ["system"] (aI l9):=by walk_at "d"
theorem zO (T:Txt K mg Z):cK P w K mg base fu 10 Z.sT Z.sN ["system"] (IB K Z.a_System):=by
 refine T.kF.F.ok zL (λvs H Q E h=>?_) (λcdv A outer s H vs Q E hr h=>?_)
 ·obtain ⟨x,a,c,H0,mv,pt,lk,rfl,_⟩:=h;rfl
 ·obtain ⟨x,a,c,H0,mv,pt,lk,rfl,S,D,KF,Z9,k⟩:=h;refine ⟨_,(aB (aW (cM (AQ T) hr T.pU (ae (pv 0) (ae (cM (ox T) hr T.hZ (ae (pv 0) ak)) ak))))),?_⟩;refine aP (σ:=[some (.ref x)]) rfl ?_;exists ⟨x,a,c,H0,mv,pt,lk,rfl,S,D,KF,λt l R ps H1 RR nl s1 gt G=>?_⟩;obtain ⟨F,w,sw⟩:=Z9 R ps RR;exists ⟨x,t,l,w,ps.length,H0,H,mv,pt,lk,kK R ps mv.length,stC R ps mv.length,rfl,gt,⟨S.same s1,D,G,oY RR,sw,λR9 ps9 h9=>K2 RR h9,jS RR,F,RR.le⟩,λz H2 s2 S2=>k z R ps H2 RR (s1.trans s2) (S2.weak s1)⟩
theorem D5:aV ["system"] ["system"] (aI rz):=by walk_at "d"
theorem Eu (T:Txt K mg Z):cK P w K mg base fu 11 Z.zj Z.yR ["system"] (IF K Z.a_System):=by
 refine T.pT.F.ok D5 (λvs H Q E h=>?_) (λcdv A outer s H vs Q E hr h=>?_)
 ·obtain ⟨x,e,H0,mv,pt,lk,rfl,_⟩:=h;rfl
 ·obtain ⟨x,e,H0,mv,pt,lk,rfl,S,D,F0,UF,Z9,k⟩:=h;refine ⟨_,(aB (aW (cM (AQ T) hr T.pU (ae (pv 0) (ae (cM (tI T) hr T.jW (ae (pv 0) ak)) ak))))),?_⟩;refine aP (σ:=[some (.ref x)]) rfl ?_;exists ⟨x,e,H0,mv,pt,lk,rfl,S,D,F0,UF,λt l R ps U pu H1 RR RN nl s1 gt G=>?_⟩;obtain ⟨F,w,sw⟩:=Z9 R ps U pu RR RN;have cn:=kL RN;exists ⟨x,t,l,w,(di pu mv.length).length,H0,H,mv,pt,lk,qC U pu mv.length,vo U pu mv.length,rfl,gt,⟨S.same s1,D,G,vp RN,sw,λR9 ps9 h9=>K9 RN h9,kN RN,F,by lia⟩,λz H2 s2 S2=>k z R ps U pu H2 RR RN (s1.trans s2) (S2.weak s1)⟩
theorem D9:aV ["_law_bag_here","_law_parts_here","_law_steps_here","_law_wide"] ["_law_bag_here","_law_parts_here","_law_steps_here","_law_wide"] (aI rD):=by walk_at "d"
theorem Ey (T:Txt K mg Z):cK P w K mg base fu 4 Z.zv Z.yV ["_law_bag_here","_law_parts_here","_law_steps_here","_law_wide"] (Fw K):=by
 refine T.pX.F.ok D9 (λvs H Q E h=>?_) (λcdv A outer s H vs Q E hr h=>?_)
 ·obtain ⟨b,r,tt,w,H0,mv,pt,lk,rfl,_⟩:=h;rfl
 ·obtain ⟨b,r,tt,w,H0,mv,pt,lk,rfl,hT,w1,w2,hB,nb,PQ,D,k⟩:=h;refine ⟨_,(aB (aW (cf ["_law_turn"] ["_law_bag_here","_law_parts_here","_law_wide"] [0,1,3] (cy rfl T.range (ae (pv 2) ak)) (λ_=>(aN (i:=0) (show ND9 ["_law_turn","_law_bag_here","_law_parts_here","_law_wide"] by decide +kernel))) (λ_=>cm) (λ_=>(cM (rZ T) hr T.iS (ae (pv 1) (ae (bK (Cj K (by rfl)) (by rfl) T.len aU (ae (aX (m5 K (by rfl)) (pv 2) au) ak)) (ae (pv 3) ak)))))))),?_⟩;refine aP (σ:=[some (.ref b),some (.ref r),some (.int tt),some (.int w)]) rfl ?_;have i4:=D.i4;exists ⟨by lia,by lia,?_⟩
  refine yz (n:=tt) (b:=b) (cI K H) (λxs=>xs.length=pt.length/\∀x∈xs,Dr (max w 6) x) hB (by lia) (λ{H' H'' c x} a u B=>by
   obtain ⟨q,e,nq,R⟩:=a;exact ⟨q,e,nq,R.upto u B (λz=>hB.at (by rw[<- z];exact nq))⟩) ?_ ?_
  ·rintro i Ha NY NN hi ua Ba k1;obtain ⟨m,p,l,g,n1,n2,n3,Gm,Gp,Gl⟩:=PQ.upto ua hB nb;obtain ⟨up,gp,qp,_⟩:=id Gp;have lup:=qp.length;exists ⟨_,_,rfl,.inl (bU.of gp),?_⟩;rw[<- lup];exists ⟨b,pt.length,w,rfl,Ba,by lia,w1,by lia,λq xs Hb nq R lx dx Bb ub=>?_⟩;exact k1 _ xs _ ub Bb ⟨lx,dx⟩ ⟨q,rfl,ua.none Ba nq,R⟩
  ·rintro ys cs Hz t ht uz Bz gz lc hc prz nx;exact k t cs Hz ht ⟨ys,gz,prz,eN nx⟩ lc hc Bz uz
theorem jT:aV ["_law_bag_here","_law_parts_here","_law_bottoms","_law_row_here"] ["_law_bag_here","_law_parts_here"] (aI pB):=by walk_at "d"
theorem Cd (T:Txt K mg Z):cK P w K mg base fu 2 Z.w5 Z.wa ["_law_bag_here","_law_parts_here"] (Cv K):=by
 refine T.nU.F.ok jT (λvs H Q E h=>?_) (λcdv A outer s H vs Q E hr h=>?_)
 ·obtain ⟨b,r,H0,mv,pt,lk,rfl,_⟩:=h;rfl
 ·obtain ⟨b,r,H0,mv,pt,lk,rfl,hB,nb,PQ,D,sz,k⟩:=h
  refine ⟨_,(ax (aZ (i:=2) jT.nd rfl (Or.inl rfl) (dD (ae au ak)))
   (ax (eL PassesOwn.never rfl (cp (bT kC (aX bY (pv 1) au) (aX bY (pv 1) au))) (aN (i:=3) jT.nd)
    (aB (aZ (i:=2) jT.nd rfl (Or.inl rfl) (bT kC (pv 2) (cf ["_law_one"] [] [] (cp (pv 3)) (λ_=>(aN (i:=0) (show ND9 ["_law_one"] by decide +kernel))) (λ_=>cm) (λ_=>(bT fJ (aX (m5 K (by rfl)) (pv 0) au) (bT cZ (bT iw (bK wH (by rfl) T.abs PyProof.Rows.boot_abs (ae (aX (m5 K (by rfl)) (pv 0) au) ak)) au) au))))))))
   (ax (dh (bF vH (bK (Kw rfl) (by rfl) T.max PyProof.Rows.boot_max (ae (pv 2) ak)) au (bS _)) (aB (aW (cM (bx T) hr T.a9 (ae (pv 0) (ae au ak))))) cu)
   (ax (dh (bF vH (bK bc (by rfl) T.len aU (ae (aX bY (pv 1) au) ak)) au (bS _)) (aB (aW (aX bZ (dD (ae (cM (bx T) hr T.a9 (ae (pv 0) (ae au ak))) (ae (bK bc (by rfl) T.len aU (ae (aX bY (pv 1) au) ak)) ak))) (cM (bx T) hr T.a9 (ae (pv 0) (ae au ak)))))) cu)
   (ax (dh (PW.pt (jF (bF rW (bK bc (by rfl) T.len aU (ae (aX bY (pv 1) au) ak)) au (bS _)) (kR (bF fI (cM (bx T) hr T.a9 (ae (pv 0) (ae au ak))) au (bS _))))) (aB (aW (cM (bx T) hr T.a9 (ae (pv 0) (ae au ak))))) cu)
   (aB (aW (cM (bx T) hr T.a9 (ae (pv 0) (ae (bT fJ au (bK bc (by rfl) T.len aU (ae (aX bY (pv 1) au) ak))) ak)))))))))),?_⟩
  refine aP (σ:=[some (.ref b),some (.ref r),none,none]) rfl ?_;have d8:=D.n8;have i4:=D.i4;obtain ⟨m,p,l,g,n1,n2,n3,Gm,Gp,Gl⟩:=id PQ;obtain ⟨um,gm,qm,_⟩:=id Gm;obtain ⟨up,gp,qp,_⟩:=id Gp;have lum:=qm.length;have lup:=qp.length;exists c6 λbl0 H1 s1 nbl g1=>?_
  have g':=s1 _ _ g;exists kz (s1 _ _ gm) (s1 _ _ gp) (aT (bO (by lia))) λcc H2 s2 nc gc=>?_
  have s02:=s1.trans s2;have qc:Paired (cI K H0 H2) (mv++pt) (um++up):=Paired.imp' (λ_ _ z=>cI.same z s02) (cg qm qp)
  have wc:∀xs∈mv++pt,xs.length=mv.length:=λxs hx=>by
   rcases az.mp hx with hx | hx
   ·exact D.mw xs hx
   ·exact D.pw xs hx
  have lc:(mv++pt).length=(um++up).length:=qc.length;rw[av,av] at lc;exists ⟨⟨_,bU.of gc⟩,?_⟩;refine mJ (K:=K) (a:=cc) (xs:=um++up) (λi σ' H'=>aH H2 H'/\∃bl ns y,σ'=[some (.ref b),some (.ref r),some (.ref bl),y]/\H' bl=some (.lst (ns.map V.int))/\1<=ns.length/\ns.length<=1+i*8/\∀j xs,j < i->(mv++pt)[j]?=some xs->∀x∈xs,Q8 x∈ns) ⟨aH.refl _,bl0,[1],_,rfl,s2 _ _ g1,by decide,by decide,λj xs h=>absurd h (fj _)⟩ (λi σ' H' _ ⟨e,_⟩=>bU.of (e _ _ gc)) ?_ ?_
  ·rintro i v σ' H' hv ⟨e,bl,ns,y,rfl,gb,b1,b2,hn⟩;obtain ⟨xs,exs,u,rfl,_,zs,gz,qz⟩:=cX qc hv;have mx:=ar exs;have wx:=wc xs mx;have hi:i < (um++up).length:=(aF.mp hv).1;rw[av] at hi;exists ⟨⟨_,bU.of (e _ _ gz)⟩,?_⟩;refine cN (K:=K) (F:=cB K) (λ_ c x=>x=V.int (Q8 c)) id (e _ _ gz) (Paired.imp' (λ_ _ z=>z.same e) qz) (by lia) (λa b=>a.same b) (λa _=>a) ?_ ?_
   ·rintro j c x Ha NY NN ec sa ⟨pp,rfl,hp⟩ k1;have mc:=ar ec;have szc:=sz xs mx c mc;walk_at "w"
    have e1:(if (nm c).1 < 0 then -(nm c).1 else (nm c).1)=(c.num.natAbs:Int):=by
     show (if c.num < 0 then -c.num else c.num)=_
     split <;> lia
    have e2:(c.num.natAbs:Int).fdiv 1000=(c.num.natAbs:Int) / 1000:=cE _ (by decide);rw[e1];refine fF (show oQ _ _ from ⟨by decide,bJ (show (1000:Int).natAbs < 2^20 by decide) (ao (by decide) (by decide))⟩) ?_;rw[e2];exists k1 _ _ (aH.refl _) rfl
   rintro ys Hb cl hcl sb gcl prl _
   have ey:ys=(xs.map Q8).map V.int:=by
    rw[jy] at prl;rw[fD];exact CL prl
   have ly:=prl.length;rw[ag] at ly;have gbb:=sb _ _ gb;rw[ey] at gcl;exists kz gbb gcl (aT (bO (by rw[ag,ag,ag];lia))) λc2 Hc sc nc2 gc2=>?_
   rw[<- b9] at gc2;refine ⟨(e.trans sb).trans sc,c2,ns++xs.map Q8,_,rfl,gc2,by rw[av];lia,by rw[av,ag];lia,λj ys' hj ej x hx=>?_⟩;rcases bV j i with z | z
   ·exact eT _ (hn j ys' z ej x hx)
   ·have:j=i:=by lia
    subst this;rw[exs] at ej;cases ej;exact bR _ (aw.mpr ⟨x,hx,rfl⟩)
  ·rintro σ' H' ⟨e,bl,ns,y,rfl,gb,b1,b2,hn⟩;have e0:=s02.trans e;have B':=hB.same e0;have PQ':=PQ.same e0;obtain ⟨m',p',l',g2,_,_,_,Gm',_,_⟩:=id PQ'
   have em:m'=m:=by
    have:=e0 _ _ g;rw[this] at g2;cases g2;rfl
   subst em;obtain ⟨um',gm',qm',_⟩:=id Gm';have lum':=qm'.length;have u0:c5 b H H':=e0.upto;exists ⟨bl,ns,rfl,bU.of gb,by lia,λM hM hmax=>?_⟩;exists gZ (λh=>?_) (λh=>?_)
   ·exists ⟨b,4,rfl,B',by decide,by decide,λv H3 v0 v1 B3 u3=>?_⟩;obtain ⟨v,rfl⟩:=cP v0;exact k v H3 ⟨by lia,.inl (by lia)⟩ B3 (u0.trans u3)
   ·have M9:M<=9:=by rw[decide_eq_true_eq] at h;lia
    have sm:∀xs∈mv++pt,∀x∈xs,x.den<=9/\x.num.natAbs < 1000:=λxs hx x hx'=>by
     obtain ⟨j,hj,rfl⟩:=aK hx;have:=hn j _ (by rw[av,<- lum,<- lup];rw[av] at hj;exact hj) (af hj) x hx';exact Oh (Int.le_trans (hmax _ this) M9)
    exists ⟨_,_,rfl,.inl (bU.of gm'),?_⟩;rw[<- lum'];exists gZ (λh1=>?_) (λh1=>?_)
    ·have n5:5 < mv.length:=by have:=of_decide_eq_true h1;lia
     exists ⟨b,4,rfl,B',by decide,by decide,λv H3 v0 v1 B3 u3=>?_⟩;obtain ⟨v,rfl⟩:=cP v0;obtain ⟨m3,p3,l3,g3,_,_,_,Gm3,_,_⟩:=PQ'.upto u3 B' nb;obtain ⟨um3,gm3,qm3,_⟩:=id Gm3;have lum3:=qm3.length;exists ⟨_,_,rfl,.inl (bU.of gm3),?_⟩;rw[<- lum3];exists c6 λl4 H4 s4 n4 g4=>?_
     exists ⟨b,2,rfl,B3.same s4,by decide,by decide,λv2 H5 v20 v21 B5 u5=>?_⟩;have g5:=u5.other (λz=>B3.at (by rw[<- z];exact n4)) g4;obtain ⟨x,ex,mx,_⟩:=kh (xs:=[V.int (v:Int),V.int (mv.length:Int)]) v20 (by simpa using v21);exists cA (bU.of g5) ex ?_;have u05:=(u0.trans (u3.same s4)).trans u5;simp only[aG,a8,or_false] at mx;rcases mx with rfl | rfl
     ·exact k v H5 ⟨by lia,.inl (by lia)⟩ B5 u05
     ·exact k mv.length H5 ⟨by lia,.inr ⟨sm,λ_=>aj _,λ_ _=>mM _⟩⟩ B5 u05
    ·have n5:mv.length<=5:=by rw[decide_eq_true_eq] at h1;lia
     exists ⟨_,_,rfl,.inl (bU.of gm'),?_⟩;rw[<- lum'];have last:∀(Hx:Hp),ip Hx b->c5 b H Hx->∀(v:Nat),v < 2+mv.length->Q (.int v) Hx:=λHx Bx ux v hv=>k v Hx ⟨by lia,.inr ⟨sm,λz=>by lia,λ_ _=>by lia⟩⟩ Bx ux
     exists gZ (λh2=>?_) (λh2=>?_)
     ·have n3':mv.length < 3:=by have:=of_decide_eq_true h2;lia
      exists ⟨b,8,rfl,B',by decide,by decide,λv H3 v0 v1 B3 u3=>?_⟩;exists gZ (λh3=>?_) (λh3=>?_)
      ·exists ⟨b,13,rfl,B3,by decide,by decide,λv4 H4 v40 v41 B4 u4=>?_⟩;obtain ⟨v4,rfl⟩:=cP v40;exact k v4 H4 ⟨by lia,.inr ⟨sm,λz=>by lia,λz _=>by lia⟩⟩ B4 ((u0.trans u3).trans u4)
      ·obtain ⟨m3,p3,l3,g3,_,_,_,Gm3,_,_⟩:=PQ'.upto u3 B' nb;obtain ⟨um3,gm3,qm3,_⟩:=id Gm3;have lum3:=qm3.length;exists ⟨_,_,rfl,.inl (bU.of gm3),?_⟩;rw[<- lum3];walk_at "w";rw[show ((2:Int)+(mv.length:Int))=((2+mv.length:Nat):Int) by lia];refine ⟨b,2+mv.length,rfl,B3,by lia,by lia,λv4 H4 v40 v41 B4 u4=>?_⟩;obtain ⟨v4,rfl⟩:=cP v40;exact last H4 B4 ((u0.trans u3).trans u4) v4 (by lia)
     ·exists ⟨_,_,rfl,.inl (bU.of gm'),?_⟩;rw[<- lum'];walk_at "w";rw[show ((2:Int)+(mv.length:Int))=((2+mv.length:Nat):Int) by lia];refine ⟨b,2+mv.length,rfl,B',by lia,by lia,λv4 H4 v40 v41 B4 u4=>?_⟩;obtain ⟨v4,rfl⟩:=cP v40;exact last H4 B4 (u0.trans u4) v4 (by lia)
theorem fV:aV ["_law_parts_here","_law_state","_law_puts_here","_law_move_here","_law_put","_law_look","_law_found","_law_k"] ["_law_parts_here","_law_state","_law_puts_here"] (aI rH):=by walk_at "d"
theorem EA (T:Txt K mg Z):cK P w K mg base fu 5 Z.zz Z.yZ ["_law_parts_here","_law_state","_law_puts_here"] (Fy K):=by
 refine T.pZ.F.ok fV (λvs H Q E h=>?_) (λcdv A outer s H vs Q E hr h=>?_)
 ·obtain ⟨r,s0,u0,H0,mv,pt,lk,st,pu,rfl,_⟩:=h;rfl
 ·obtain ⟨r,s0,u0,H0,mv,pt,lk,st,pu,rfl,PQ,D,hs,hu,l1,l2,NX,k⟩:=h
  refine ⟨_,(ax (fG (pv 0) (yd rfl (c8 (aN (i:=3) fV.nd) (c8 (aN (i:=4) fV.nd) (c8 (aN (i:=5) fV.nd) jU)))))
   (ax (aZ (i:=6) fV.nd rfl (Or.inl rfl) (cM (uR T) hr T.mF (ae (pv 3) (ae (pv 1) ak))))
   (ax (eL PassesOwn.never rfl (cy rfl T.range (ae (bK bc (by rfl) T.len aU (ae (pv 4) ak)) ak)) (aN (i:=7) fV.nd)
    (aB (aZ (i:=6) fV.nd rfl (Or.inl rfl) (cM (vJ T) hr T.kY (ae (pv 6) (ae (cM (my T) hr T.iI (ae (aX bZ (pv 2) (pv 7)) (ae (aX bZ (pv 4) (pv 7)) ak))) ak))))))
   (aB (aW (pv 6)))))),?_⟩
  refine aP (σ:=[some (.ref r),some (.ref s0),some (.ref u0),none,none,none,none,none]) rfl ?_;obtain ⟨m,p,l,g,n1,n2,n3,Gm,Gp,Gl⟩:=id PQ;have d1:=D.n8;have d2:=D.i4;exists ⟨m,s0,H0,mv,st,rfl,Gm,hs,by lia,by lia,λxs hx=>⟨by rw[D.mw xs hx,l1],NX.f2 xs hx⟩,λf H1 nf s1 R1=>?_⟩;obtain ⟨ps,gp,qp,_⟩:=Gp.same s1;have lp:=qp.length;exists ⟨_,_,rfl,.inl (bU.of gp),?_⟩;exists ⟨by lia,by lia,?_⟩;refine d5 (n:=ps.length) (λkk σ' H'=>∃(f:Addr) (x:Option V),σ'=[some (.ref r),some (.ref s0),some (.ref u0),some (.ref m),some (.ref p),some (.ref l),some (.ref f),x]/\H f=none/\aH H1 H'/\dI K H' f (nextK mv pt st pu kk)) ⟨f,none,rfl,nf,aH.refl _,by rw[HR];exact R1⟩ ?_ ?_
  ·rintro kk σ' H' hk ⟨f',x,rfl,nf',s',R'⟩;have kp:kk < pt.length:=by lia
   have ku:kk < pu.length:=by lia
   obtain ⟨zs,gz,qz⟩:=(hu.same s1).same s';have lz:=qz.length;obtain ⟨vu,eu,nu⟩:=F9 qz ku;obtain ⟨row,vr,er,ev,mr,q,rfl,_,Rq⟩:=fW qp kp
   have er':pt[kk]=row:=by
    rw[af kp] at er;exact cv er
   have eu':pu.getD kk 0=pu[kk]:=by rw[aa,af ku];rfl
   have mu:pu.getD kk 0∈pu:=getD_mem ku;exists cA (bU.of gz) eu ?_;exists cA (bU.of (s' _ _ gp)) (dG ev) ?_;exists ⟨vu,q,_,row,rfl,nu,NX.su _ mu,Rq.same s',by rw[D.pw row mr];lia,NX.sp row mr,λr1 H2 n1' s2 R2=>?_⟩;exists ⟨f',r1,_,_,rfl,R'.same s2,R2,by rw[ag,iO,D.pw row mr],by rw[iO];lia,NX.part kk,λy hy=>?_,λr2 H3 n2' s3 R3=>?_⟩
   ·obtain ⟨y',hy',rfl⟩:=aw.mp hy;exact NX.mul _ mu row mr y' hy'
   ·exists ⟨s1.none (s'.none (s2.none n2')),(s'.trans s2).trans s3,?_⟩;have e:=HS (st:=st) (pu:=pu) (λxs hx=>by rw[D.mw xs hx,l1]) kp ku (by rw[er'];exact D.pw row mr);rw[er',<- eu'] at e;rw[<- e];exact R3
  ·rintro σ' H' ⟨f',x,rfl,nf',s',R'⟩;rw[tj (by lia) (by lia)] at R';exists k f' H' nf' (s1.trans s') R'
theorem iu:aV ["_law_parts_here","_law_puts_here","_law_state","_law_looks_here","_law_row_here"] ["_law_parts_here","_law_puts_here"] (aI pI):=by walk_at "d"
theorem tQ (T:Txt K mg Z):cK P w K mg base fu 6 Z.xk Z.wD ["_law_parts_here","_law_puts_here"] (IJ K):=by
 refine T.j7.F.ok iu (λvs H Q E h=>?_) (λcdv A outer s H vs Q E hr h=>?_)
 ·obtain ⟨r,p,H0,H1,mv,pt,lk,pus,rfl,_⟩:=h;rfl
 ·obtain ⟨r,p,H0,H1,mv,pt,lk,pus,rfl,PQ,D,GP,p100,wp,NX,LF,k⟩:=h
  refine ⟨_,(ax (gG 2 ["_law_row_here"] [] [] iu.nd rfl rfl (cp (aX bY (pv 0) au)) (λ_=>(aN (i:=0) (show ND9 ["_law_row_here"] by decide +kernel))) (λ_=>cm) (λ_=>(dg (ae au (ae au ak)))))
   (ax (aZ (i:=3) iu.nd rfl (Or.inl rfl) (dD ak))
   (ax (eL PassesOwn.never rfl (cp (pv 1)) (aN (i:=4) iu.nd)
    (ax (aZ (i:=2) iu.nd rfl (Or.inl rfl) (cM (EA T) hr T.pZ (ae (pv 0) (ae (pv 2) (ae (pv 4) ak)))))
   (aB (kS (AJ dM eP eO lV (pv 3) (ae (cM (uR T) hr T.mF (ae (aX bY (pv 0) au) (ae (pv 2) ak))) ak))))))
   (aB (aW (pv 3)))))),?_⟩
  refine aP (σ:=[some (.ref r),some (.ref p),none,none,none]) rfl ?_;obtain ⟨m0,p0,l0,gr,_,_,_,Gm,Gp,Gl⟩:=id PQ;obtain ⟨ms,gm,qm,_⟩:=id Gm;obtain ⟨pv,gpv,qpv,_⟩:=id GP;have lm:=qm.length;have lpv:=qpv.length;have n8:=D.n8;have o4:=D.o4;exists ⟨⟨_,bU.of gm⟩,?_⟩;refine cN (K:=K) (as:=mv) (F:=cI K H0) (cB K) (λ_=>0) gm qm (by lia) (λa b=>a.same b) (λa b=>a.same b) ?_ ?_
  ·rintro j xs y Ha NY NN ex sa _ k1;exists cF λt Hb sb gb=>?_
   exact k1 _ _ sb (cB.mk (q:=0) gb rfl)
  rintro ys1 H2 Hv nst s2 g2 pr2 _;have e0:mv.map (λ_=>(0:Rat))=List.replicate mv.length 0:=by simp [List.map_const']
  rw[e0] at pr2;exists c6 λfl H3 s3 nfl gfl=>?_
  have sf0:Hv≠fl:=λz=>by rw[z,nfl] at g2;cases g2
  have s03:=s2.trans s3;exists ⟨⟨_,bU.of (s03 _ _ gpv)⟩,?_⟩;refine mJ (K:=K) (a:=p) (xs:=pv) (λi σ' H'=>aH H2 H'/\∃st ys y,σ'=[some (.ref r),some (.ref p),some (.ref st),some (.ref fl),y]/\st≠fl/\dI K H' st (mR mv pt (List.replicate mv.length 0) pus i)/\H' fl=some (.lst ys)/\Paired (Tv K H fl H') (MK mv pt lk pus i) ys) ⟨s3,Hv,[],_,rfl,sf0,dI.same ⟨ys1,g2,pr2⟩ s3,gfl,.nil⟩ (λi σ' H' _ ⟨s,_⟩=>bU.of (s _ _ (s2 _ _ gpv))) ?_ ?_
  ·rintro i v σ' H' hv ⟨sH,st,ys,y,rfl,nst',Rs,gys,pr⟩;obtain ⟨pu,epu,pq,rfl,_,Rp⟩:=cX qpv hv;have mp:=ar epu;have il:=(aF.mp epu).1;have s0:=s2.trans sH;have gr':=s0 _ _ gr;exists ⟨r,st,pq,H0,mv,pt,lk,_,pu,rfl,PQ.same s0,D,Rs,Rp.same s0,kM bw (by lia),wp pu mp,NX i pu epu,λr8 H8 n8' s8 R8=>?_⟩;rw[<- ke epu] at R8;have s08:=s0.trans s8;have gys8:=s8 _ _ gys;have r8f:r8≠fl:=λz=>by rw[z,gys] at n8';cases n8'
   have gr8:=s08 _ _ gr;have lys:=pr.length;rw[show (MK mv pt lk pus i).length=i by unfold MK;rw[ag,bX]] at lys;exists ⟨.inl ⟨rfl,_,bU.of gys8⟩,?_⟩;exists ⟨l0,r8,H0,lk,_,rfl,Gl.same s08,R8,by lia,by rw[kM bw (by lia)];lia,λxs hx=>⟨by rw[D.lw xs hx,kM bw (by lia)],LF (i+1) (by lia) xs hx⟩,λr9 H9 n9 s9 R9=>?_⟩;have gys9:=s9 _ _ gys8;have r9f:r9≠fl:=λz=>by rw[z,gys8] at n9;cases n9
   have s89:=s8.trans s9;exists lQ gys9 (bO (by lia)) ?_;refine ⟨(sH.trans s89).after nfl,r8,_,_,rfl,r8f,(R8.same s9).updL gys9 r8f,aM,?_⟩;rw[N2];exact cg (Paired.imp' (λ_ _ ⟨q,e,nq',ne,Rq⟩=>⟨q,e,nq',ne,(Rq.same s89).updL gys9 ne⟩) pr) (.cons ⟨r9,rfl,s08.none n9,r9f,R9.updL gys9 r9f⟩ .nil)
  ·rintro σ' H' ⟨sH,st,ys,y,rfl,_,_,gys,pr⟩;exists k fl H' (s2.none nfl) (s2.trans sH) ⟨ys,gys,?_,λz=>?_⟩
   ·rw[lpv];exact Paired.imp' (λ_ _ ⟨q,e,nq',_,Rq⟩=>⟨q,e,nq',Rq⟩) pr
   ·obtain ⟨_,_,q,e,_,ne,_⟩:=dd pr z;cases e;exact ne rfl
theorem mT:aV ["_law_thing","_law_part"] ["_law_thing"] (aI jE):=by walk_at "d"
theorem vM (T:Txt K mg Z):cK P w K mg base fu 2 Z.oO Z.oG ["_law_thing"] (JZ K):=by
 refine T.jm.F.ok mT (λvs H Q E h=>?_) (λcdv A outer s H vs Q E hr h=>?_)
 ·obtain ⟨x,n,rfl,_⟩:=h;rfl
 ·obtain ⟨x,n,rfl,⟨p,rfl,hp⟩,hn,k⟩:=h
  refine ⟨_,(ax (dh (PW.pt (mV (kB (jG (z5 rfl T.isinstance PyProof.Rows.boot_tuple T.tuple (pv 0)))) (ja (bF vG (bK bc (by rfl) T.len aU (ae (pv 0) ak)) au (bS _))))) (aB (aW tG)) cu)
   (ax (eL PassesOwn.never rfl (Qm (pv 0)) (aN (i:=1) mT.nd)
    (aB (dh (PW.pt (mV (kB (jG (z5 rfl T.isinstance PyProof.Rows.boot_int T.int (pv 1)))) (ja (jG (z5 rfl T.isinstance PyProof.Rows.boot_bool T.bool (pv 1)))))) (aB (aW tG)) cu)))
   (aB (aW (AK (jV vH (aX bY (pv 0) au) au (bS _)) (Eo (jV (Ly (EN hr)) (cM (fP T) hr T.eE (ae (aX bY (pv 0) au) (ae (aX bY (pv 0) au) ak))) (pv 0) (bS _)))))))),?_⟩
  refine aP (σ:=[some (.ref p),none]) rfl ?_;obtain ⟨hb,hg,_,hs⟩:=hn;exists .inr ⟨p,_,_,rfl,hp,rfl,?_⟩;exists ⟨_,_,rfl,.inr hp,?_⟩;walk_at "w"
  try refine N4 ?_
  exists ⟨⟨_,hp⟩,?_⟩;refine N9 (K:=K) (a:=p) (xs:=[.int n.1,.int n.2]) (λi σ' H'=>H'=H/\∃x,σ'=[some (.ref p),x]) ⟨rfl,none,rfl⟩ (λi σ' H' _ ⟨e,_⟩=>by subst e;exact hp) ?_ ?_
  ·rintro i x σ' H' hx ⟨rfl,y,rfl⟩
   obtain ⟨z,rfl⟩:∃z,x=V.int z:=by
    have hm:x∈[V.int n.1,V.int n.2]:=ar hx;simp only[aG,a8,or_false] at hm;rcases hm with e | e
    ·exact ⟨_,e⟩
    ·exact ⟨_,e⟩
   exists .inl ⟨_,_,.int z,rfl,?_⟩;exists .inl ⟨_,_,.int z,rfl,?_⟩;exists ⟨rfl,_,rfl⟩
  ·rintro σ' H' ⟨rfl,x,rfl⟩;walk_at "w";rw[decide_eq_true hb];exists ⟨n.1,n.2,rfl,hb,hs.mono (by decide),λr H' s1 h'=>?_⟩;obtain ⟨e1,e2⟩:=Qy hb hg;exists ⟨_,_,So,(lo n.1 n.2,hi n.1 n.2),n,by decide,⟨r,rfl,mP.of h'⟩,⟨p,rfl,s1.sqt hp⟩,?_⟩;rw[e1,e2,decide_eq_true rfl];exact k _ s1
theorem As:aV ["_law_thing","_law_many"] ["_law_thing","_law_many"] (aI nK):=by walk_at "d"
theorem AU (T:Txt K mg Z):cK P w K mg base fu 3 Z.uj Z.t7 ["_law_thing","_law_many"] (xF K):=by
 refine T.mH.F.ok As (λvs H Q E h=>?_) (λcdv A outer s H vs Q E hr h=>?_)
 ·obtain ⟨p,ns,rfl,_⟩:=h;rfl
 ·obtain ⟨p,ns,rfl,hp,hl,hn,k⟩:=h
  refine ⟨_,(ax (dh (PW.pt (mV (kB (jG (ye rfl T.isinstance PyProof.Rows.boot_list T.list (pv 0)))) (ja (bF vG (bK bc (by rfl) T.len aU (ae (pv 0) ak)) (pv 1) (bS _))))) (aB (aW tG)) cu)
   (aB (aW (bK (Bv rfl) (by rfl) T.all PyProof.Rows.boot_all (ae (cf ["_law_one"] [] [] (cp (pv 0)) (λ_=>(aN (i:=0) (show ND9 ["_law_one"] by decide +kernel))) (λ_=>cm) (λ_=>(cM (vM T) hr T.jm (ae (pv 0) ak)))) ak))))),?_⟩
  refine aP (σ:=[some (.ref p),some (.int ns.length)]) rfl ?_;obtain ⟨xs,gx,qx⟩:=id hp;have lx:=qx.length;exists ⟨_,_,.lst gx,rfl,?_⟩;exists ⟨_,_,rfl,.inl (bU.of gx),?_⟩;walk_at "w";rw[show ((xs.length:Nat):Int)=(ns.length:Nat) by rw[lx],decide_eq_true rfl];exists ⟨⟨_,bU.of gx⟩,?_⟩;refine dJ (K:=K) (xs:=xs) (λi ys H'=>aH H H'/\ys=List.replicate i (.bl true)) (aT (bO (by lia))) ⟨aH.refl _,rfl⟩ (λi ys H' _ ⟨s,_⟩=>bU.of (s _ _ gx)) ?_ ?_
  ·rintro i x ys H' hx hlen ⟨s,rfl⟩;obtain ⟨n,en,z⟩:=cX qx hx;exists ⟨x,n,rfl,s.num z,hn n (ar en),λH2 s2=>⟨s.trans s2,by rw[DE]⟩⟩
  ·rintro ys H' hy ⟨s,rfl⟩ l hl';exists ⟨l,List.replicate xs.length true,rfl,bU.of (by rw[aM];simp),?_⟩;have e4:(List.replicate xs.length true).all id=true:=by simp
   rw[e4];exact k _ (s.trans (aH.new hl'))
theorem zN:aV ["_law_thing","_law_many","_law_wide"] ["_law_thing","_law_many","_law_wide"] (aI md):=by walk_at "d"
theorem kE (T:Txt K mg Z):cK P w K mg base fu 4 Z.sV Z.sP ["_law_thing","_law_many","_law_wide"] (An K):=by
 refine T.gs.F.ok zN (λvs H Q E h=>?_) (λcdv A outer s H vs Q E hr h=>?_)
 ·obtain ⟨p,rows,m,rfl,_⟩:=h;rfl
 ·obtain ⟨p,rows,m,rfl,hp,hl,hm,hn,k⟩:=h
  refine ⟨_,(ax (dh (PW.pt (mV (kB (jG (ye rfl T.isinstance PyProof.Rows.boot_list T.list (pv 0)))) (ja (bF vG (bK bc (by rfl) T.len aU (ae (pv 0) ak)) (pv 1) (bS _))))) (aB (aW tG)) cu)
   (aB (aW (bK (Bv rfl) (by rfl) T.all PyProof.Rows.boot_all (ae (cf ["_law_row_here"] ["_law_wide"] [2] (cp (pv 0)) (λ_=>(aN (i:=0) (show ND9 ["_law_row_here","_law_wide"] by decide +kernel))) (λ_=>cm) (λ_=>(cM (AU T) hr T.mH (ae (pv 0) (ae (pv 1) ak))))) ak))))),?_⟩
  refine aP (σ:=[some (.ref p),some (.int rows.length),some (.int m)]) rfl ?_;obtain ⟨xs,gx,qx⟩:=id hp;have lx:=qx.length;exists ⟨_,_,.lst gx,rfl,?_⟩;exists ⟨_,_,rfl,.inl (bU.of gx),?_⟩;walk_at "w";rw[show ((xs.length:Nat):Int)=(rows.length:Nat) by rw[lx],decide_eq_true rfl];exists ⟨⟨_,bU.of gx⟩,?_⟩;refine dJ (K:=K) (xs:=xs) (λi ys H'=>aH H H'/\ys=List.replicate i (.bl true)) (aT (bO (by lia))) ⟨aH.refl _,rfl⟩ (λi ys H' _ ⟨s,_⟩=>bU.of (s _ _ gx)) ?_ ?_
  ·rintro i x ys H' hx hlen ⟨s,rfl⟩;obtain ⟨ns,en,q,rfl,z⟩:=cX qx hx;obtain ⟨e1,e2⟩:=hn ns (ar en);exists ⟨q,ns,by rw[e1],z.same s,by lia,e2,λH2 s2=>⟨s.trans s2,by rw[DE]⟩⟩
  ·rintro ys H' hy ⟨s,rfl⟩ l hl';exists ⟨l,List.replicate xs.length true,rfl,bU.of (by rw[aM];simp),?_⟩;have e4:(List.replicate xs.length true).all id=true:=by simp
   rw[e4];exact k _ (s.trans (aH.new hl'))
theorem vq:aV ["_law_thing","_law_n","_law_ins","_law_outs"] ["_law_thing","_law_n","_law_ins","_law_outs"] (aI jD):=by walk_at "d"
theorem vL (T:Txt K mg Z):cK P w K mg base fu 5 Z.oN Z.oF ["_law_thing","_law_n","_law_ins","_law_outs"] (FE K Z.a_System):=by
 refine T.jk.F.ok vq (λvs H Q E h=>?_) (λcdv A outer s H vs Q E hr h=>?_)
 ·obtain ⟨x,H0,mv,pt,lk,rfl,_⟩:=h;rfl
 ·obtain ⟨x,H0,mv,pt,lk,rfl,S,D,G1,G2,G3,k⟩:=h
  refine ⟨_,(ax (dh (PW.pt (mV (kB (jG (Qp rfl T.isinstance rfl T.mg_System (pv 0)))) (ja (bF (yg (EN hr)) (dD (ae (cY (pv 0) rfl) (ae (cY (pv 0) rfl) (ae (cY (pv 0) rfl) ak)))) (dD (ae (pv 1) (ae (pv 2) (ae (pv 3) ak)))) (bS _))))) (aB (aW tG)) cu)
   (aB (aW (AK (cM (kE T) hr T.gs (ae (cY (pv 0) rfl) (ae (pv 1) (ae (pv 1) ak)))) (AK (cM (kE T) hr T.gs (ae (cY (pv 0) rfl) (ae (pv 2) (ae (pv 1) ak)))) (Eo (cM (kE T) hr T.gs (ae (cY (pv 0) rfl) (ae (pv 3) (ae (pv 1) ak)))))))))),?_⟩
  refine aP (σ:=[some (.ref x),some (.int mv.length),some (.int pt.length),some (.int lk.length)]) rfl ?_;obtain ⟨dx,a,b,c,gx,n1,n2,n3,Ga,Gb,Gc⟩:=id S;have d1:=D.n8;have d2:=D.i4;have d3:=D.o4;have lm:(mv.map (List.map nm)).length=mv.length:=ag ..;have lp:(pt.map (List.map nm)).length=pt.length:=ag ..;have ll:(lk.map (List.map nm)).length=lk.length:=ag ..
  have ok:∀(rows:LR9),(∀xs∈rows,xs.length=mv.length)->GS rows->∀ns∈rows.map (List.map nm),ns.length=mv.length/\∀n∈ns,xn n:=λrows hr ho ns hn=>by
   obtain ⟨qs,hq,rfl⟩:=aw.mp hn;refine ⟨by rw[ag];exact hr qs hq,λn hn=>?_⟩;obtain ⟨y,hy,rfl⟩:=aw.mp hn;exact ho qs hq y hy
  exists ⟨_,true,T.ty_System.1 gx,T.ty_System.2,?_⟩;exists ⟨x,Z.a_System,dx,_,_,rfl,gx,T.cl_System,T.na_states,fk,?_⟩;exists ⟨x,Z.a_System,dx,_,_,rfl,gx,T.cl_System,T.na_ins,MZ,?_⟩;exists ⟨x,Z.a_System,dx,_,_,rfl,gx,T.cl_System,T.na_outs,KY,?_⟩;exists c6 λsz H5 s5 n5 g5=>?_
  exists c6 λt2 H7 s7 n7 g7=>?_
  exists ⟨_,_,Kk Kl,[(mv.length:Int),pt.length,lk.length],[(mv.length:Int),pt.length,lk.length],by decide,⟨sz,_,rfl,bU.of (s7 _ _ g5),.cons rfl (.cons rfl (.cons rfl .nil))⟩,⟨t2,_,rfl,bU.of g7,.cons rfl (.cons rfl (.cons rfl .nil))⟩,?_⟩;rw[decide_eq_true rfl];have s:=s5.trans s7;have gx7:=s _ _ gx;exists ⟨x,Z.a_System,dx,_,_,rfl,gx7,T.cl_System,T.na_move,lZ,?_⟩;exists ⟨a,_,mv.length,by rw[lm],(Ga.same s).gridK,by rw[lm];lia,by lia,λns' hx=>ok mv D.mw G1 ns' hx,λH2 s2=>?_⟩;have s12:=s.trans s2;exists ⟨x,Z.a_System,dx,_,_,rfl,(s12 _ _ gx),T.cl_System,T.na_put,oW,?_⟩;exists ⟨b,_,mv.length,by rw[lp],(Gb.same s12).gridK,by rw[lp];lia,by lia,λns' hx=>ok pt D.pw G2 ns' hx,λH3 s3=>?_⟩;have s13:=s12.trans s3;exists ⟨x,Z.a_System,dx,_,_,rfl,(s13 _ _ gx),T.cl_System,T.na_look,oj,?_⟩;exists ⟨c,_,mv.length,by rw[ll],(Gc.same s13).gridK,by rw[ll];lia,by lia,λns' hx=>ok lk D.lw G3 ns' hx,λH4 s4=>?_⟩;exact k H4 (s13.trans s4)
theorem xJ:aV ["_law_system_here"] ["_law_system_here"] (aI ky):=by walk_at "d"
theorem oy (T:Txt K mg Z):cK P w K mg base fu 1 Z.qM Z.qH ["_law_system_here"] (IG K Z.a_System):=by
 refine T.ig.F.ok xJ (λvs H Q E h=>?_) (λcdv A outer s H vs Q E hr h=>?_)
 ·obtain ⟨x,H0,mv,pt,lk,rfl,_⟩:=h;rfl
 ·obtain ⟨x,H0,mv,pt,lk,rfl,S,k⟩:=h;refine ⟨_,(aB (aW (dg (ae (cY (pv 0) rfl) (ae (cY (pv 0) rfl) (ae (cY (pv 0) rfl) ak)))))),?_⟩;refine aP (σ:=[some (.ref x)]) rfl ?_;obtain ⟨dx,a,b,c,gx,n1,n2,n3,Ga,Gb,Gc⟩:=id S;exists ⟨x,Z.a_System,dx,_,_,rfl,gx,T.cl_System,T.na_move,lZ,?_⟩;exists ⟨x,Z.a_System,dx,_,_,rfl,gx,T.cl_System,T.na_put,oW,?_⟩;exists ⟨x,Z.a_System,dx,_,_,rfl,gx,T.cl_System,T.na_look,oj,?_⟩;exists cF λr H1 s1 g1=>?_
  exact k r H1 s1 ⟨a,b,c,g1,n1,n2,n3,Ga.same s1,Gb.same s1,Gc.same s1⟩
theorem rh:aV ["_law_system_here","_law_rows","_law_many","_law_whole","_law_move_here"] ["_law_system_here","_law_rows","_law_many"] (aI uL):=by walk_at "d"
theorem FZ (T:Txt K mg Z):cK P w K mg base fu 8 Z.BH Z.Bo ["_law_system_here","_law_rows","_law_many"] (FI K Z.a_System):=by
 refine T.sA.F.ok rh (λvs H Q E h=>?_) (λcdv A outer s H vs Q E hr h=>?_)
 ·obtain ⟨x,l,w,m,H0,H1,mv,pt,lk,rows,inv,rfl,_⟩:=h;rfl
 ·obtain ⟨x,l,w,m,H0,H1,mv,pt,lk,rows,inv,rfl,I,k⟩:=h
  refine ⟨_,(ax (aZ (i:=3) rh.nd rfl (Or.inl rfl) (cM (yL T) hr T.mZ (ae (pv 0) (ae (pv 1) ak))))
   (ax (gG 4 ["_law_row_here"] ["_law_many"] [2] rh.nd rfl rfl (cp (jb (l5 K (by rfl)) (cY (pv 3) rfl) kU (kT (pv 2)))) (λ_=>(aN (i:=0) (show ND9 ["_law_row_here","_law_many"] by decide +kernel))) (λ_=>cm) (λ_=>(jb (l5 K (by rfl)) (pv 0) kU (kT (pv 1)))))
   (aB (aW (dg (ae (pv 4) (ae (cf ["_law_row_here"] ["_law_many"] [2] (cp (cY (pv 3) rfl)) (λ_=>(aN (i:=0) (show ND9 ["_law_row_here","_law_many"] by decide +kernel))) (λ_=>cm) (λ_=>(jb (l5 K (by rfl)) (pv 0) kU (kT (pv 1))))) (ae (cf ["_law_row_here"] ["_law_many"] [2] (cp (cY (pv 3) rfl)) (λ_=>(aN (i:=0) (show ND9 ["_law_row_here","_law_many"] by decide +kernel))) (λ_=>cm) (λ_=>(jb (l5 K (by rfl)) (pv 0) kU (kT (pv 1))))) ak)))))))),?_⟩
  refine aP (σ:=[some (.ref x),some (.ref l),some (.int m),none,none]) rfl ?_;obtain ⟨S,D,G,hR,sw,iv,hi,F,mn⟩:=I;have n8:=D.n8;have i4:=D.i4;have o4:=D.o4;have D':=qd D hi hR;have lM:=fA (mv:=mv) (rows:=rows) hi;have DC:=sQ D' (m:=m) (by lia);exists ⟨x,l,w,H0,H1,mv,pt,lk,rows,inv,rfl,S,D,G,hR,sw,iv,hi,F,λz H2 s2 S2=>?_⟩;obtain ⟨dz,za,zb,zc,gz,n1,n2,n3,Ga,Gb,Gc⟩:=id S2;obtain ⟨ms,gm,qm,_⟩:=id Ga;have lm:=qm.length;have wM:∀xs∈(k6 inv mv rows mv.length).take m,m<=xs.length:=λxs hx=>by rw[D'.mw xs (bG hx),lM];exact mn
  have wP:∀xs∈mI inv pt,m<=xs.length:=λxs hx=>by rw[D'.pw xs hx,lM];exact mn
  have wL:∀xs∈(lk.map λxs=>rows.map λr=>cS r xs),m<=xs.length:=λxs hx=>by rw[D'.lw xs hx,lM];exact mn
  have lP:=D'.i4;have lL:=D'.o4;exists ⟨z,Z.a_System,dz,_,_,rfl,gz,T.cl_System,T.na_move,lZ,?_⟩;exists rR (bU.of gm) λl1 H3 s3 nl1 g3=>?_
  rw[uZ (by lia)] at g3;have s03:=s2.trans s3;exists ⟨⟨_,bU.of g3⟩,?_⟩;refine cN (K:=K) (as:=(k6 inv mv rows mv.length).take m) (F:=cI K H) (cI K H) (λxs=>xs.take m) g3 (Paired.imp' (λ_ _ z=>cI.same z s3) (eY qm m)) (by rw[aR];lia) (λa b=>a.same b) (λa b=>a.same b) ?_ ?_
  ·rintro j xs y Ha NY NN ex sa ⟨u,rfl,_,zs,gz',qz⟩ k1;have wx:=wM xs (ar ex);have lz:=qz.length;exists rR (bU.of gz') λl1 Hb sb nb gb=>?_
   rw[uZ (by lia)] at gb;exact k1 _ _ sb ⟨l1,rfl,s03.none (sa.none nb),_,gb,Paired.imp' (λ_ _ z=>cB.same z sb) (eY qz m)⟩
  rintro y1 H4 q1 hq1 s4 g4 pr4 nx4;have G4:bo K H H4 q1 (dB m ((k6 inv mv rows mv.length).take m)):=⟨y1,g4,pr4,eN nx4⟩;have s24:=s3.trans s4;have s04:=s2.trans s24;have gz4:=s24 _ _ gz;obtain ⟨bs,gb,qb,_⟩:=Gb.same s24;clear g4 pr4 nx4;exists ⟨z,Z.a_System,dz,_,_,rfl,gz4,T.cl_System,T.na_put,oW,?_⟩;exists ⟨⟨_,bU.of gb⟩,?_⟩;refine cN (K:=K) (as:=mI inv pt) (F:=cI K H) (cI K H) (λxs=>xs.take m) gb qb (by lia) (λa b=>a.same b) (λa b=>a.same b) ?_ ?_
  ·rintro j xs y Ha NY NN ex sa ⟨u,rfl,_,zs,gz',qz⟩ k1;have wx:=wP xs (ar ex);have lz:=qz.length;exists rR (bU.of gz') λl1 Hb sb nb gb=>?_
   rw[uZ (by lia)] at gb;exact k1 _ _ sb ⟨l1,rfl,s04.none (sa.none nb),_,gb,Paired.imp' (λ_ _ z=>cB.same z sb) (eY qz m)⟩
  rintro y2 H5 q2 hq2 s5 g5 pr5 nx5;have G5:bo K H H5 q2 (dB m (mI inv pt)):=⟨y2,g5,pr5,eN nx5⟩;have s25:=s24.trans s5;have s05:=s2.trans s25;have gz5:=s25 _ _ gz;obtain ⟨cs,gc,qc,_⟩:=Gc.same s25;clear g5 pr5 nx5;exists ⟨z,Z.a_System,dz,_,_,rfl,gz5,T.cl_System,T.na_look,oj,?_⟩;exists ⟨⟨_,bU.of gc⟩,?_⟩;refine cN (K:=K) (as:=lk.map λxs=>rows.map λr=>cS r xs) (F:=cI K H) (cI K H) (λxs=>xs.take m) gc qc (by lia) (λa b=>a.same b) (λa b=>a.same b) ?_ ?_
  ·rintro j xs y Ha NY NN ex sa ⟨u,rfl,_,zs,gz',qz⟩ k1;have wx:=wL xs (ar ex);have lz:=qz.length;exists rR (bU.of gz') λl1 Hb sb nb gb=>?_
   rw[uZ (by lia)] at gb;exact k1 _ _ sb ⟨l1,rfl,s05.none (sa.none nb),_,gb,Paired.imp' (λ_ _ z=>cB.same z sb) (eY qz m)⟩
  rintro y3 H6 q3 hq3 s6 g6 pr6 nx6;have G6:bo K H H6 q3 (dB m (lk.map λxs=>rows.map λr=>cS r xs)):=⟨y3,g6,pr6,eN nx6⟩;have s06:=s05.trans s6;exists cF λt H7 s7 g7=>?_
  exact k t H7 (s06.trans s7) ⟨q1,q2,q3,g7,s03.none hq1,s04.none hq2,s05.none hq3,(G4.same (s5.trans s6)).same s7,(G5.same s6).same s7,G6.same s7⟩
theorem iZ:aV ["_law_script","_law_bag_here","_law_parts_here","_law_wide","_law_n","_law_system_here","_law_sizes_here","_law_firsts","_law_told","_law_puts_here","_law_due","_law_k","_law_many","_law_own"] ["_law_script"] (aI Lc):=by walk_at "d"
theorem Qr (T:Txt K mg Z):cK P w K mg base fu 12 Z.O6 Z.O5 ["_law_script"] (Am K):=by
 refine T.O9.ok iZ (λvs H Q E h=>?_) (λcdv A outer s H vs Q E hr h=>?_)
 ·obtain ⟨a0,ns,rfl,_⟩:=h;rfl
 ·obtain ⟨a0,ns,rfl,hS,hlen,k⟩:=h
  refine ⟨_,(ax (aZ (i:=1) iZ.nd rfl (Or.inl rfl) (cM (F1 T) hr T.sC (ae (pv 0) ak)))
   (ax (fG (cM (AR T) hr T.mE (ae (pv 1) ak)) (yd rfl (c8 (aN (i:=2) iZ.nd) (c8 (aN (i:=3) iZ.nd) jU))))
   (ax (aZ (i:=4) iZ.nd rfl (Or.inl rfl) (bK bc (by rfl) T.len aU (ae (aX bY (pv 2) au) ak)))
   (ax (aZ (i:=5) iZ.nd rfl (Or.inl rfl) (cM (EC T) hr T.p5 (ae (pv 2) ak)))
   (ax (aZ (i:=6) iZ.nd rfl (Or.inl rfl) (dD (ae (bK bc (by rfl) T.len aU (ae (cM (vK T) hr T.kZ (ae (cM (Ci T) hr T.nY (ae (pv 2) (ae (pv 4) ak))) (ae (pv 4) ak))) ak)) (ae (bK bc (by rfl) T.len aU (ae (cM (vK T) hr T.kZ (ae (cM (Cf T) hr T.nW (ae (pv 2) (ae (pv 4) ak))) (ae (pv 4) ak))) ak)) ak))))
   (ax (aZ (i:=7) iZ.nd rfl (Or.inl rfl) (dD (ae (cM (ox T) hr T.hZ (ae (pv 5) ak)) (ae (cM (tI T) hr T.jW (ae (pv 5) ak)) ak))))
   (ax (aZ (i:=8) iZ.nd rfl (Or.inl rfl) (dD (ae (cM (zO T) hr T.kF (ae (pv 5) ak)) (ae (cM (Eu T) hr T.pT (ae (pv 5) ak)) ak))))
   (ax (aZ (i:=9) iZ.nd rfl (Or.inl rfl) (cM (Ey T) hr T.pX (ae (pv 1) (ae (pv 2) (ae (bT fJ au (cM (Cd T) hr T.nU (ae (pv 1) (ae (pv 2) ak)))) (ae (pv 3) ak))))))
   (ax (aZ (i:=10) iZ.nd rfl (Or.inl rfl) (cM (tQ T) hr T.j7 (ae (pv 2) (ae (pv 9) ak))))
   (ax (eL PassesOwn.never rfl (cy rfl T.range (ae au ak)) (aN (i:=11) iZ.nd)
    (ax (aZ (i:=12) iZ.nd rfl (Or.inl rfl) (aX bZ (pv 6) (pv 11)))
   (ax (dh (PW.pt (mV (bF vG (aX bY (aX bZ (pv 7) (pv 11)) au) (pv 12) (bS _)) (ja (kB (jG (cM (vL T) hr T.jk (ae (aX bZ (pv 8) (pv 11)) (ae (pv 12) (ae (bK bc (by rfl) T.len aU (ae (aX bY (pv 2) au) ak)) (ae (bK bc (by rfl) T.len aU (ae (aX bY (pv 2) au) ak)) ak)))))))))) (aB (aW tG)) cu)
   (ax (aZ (i:=13) iZ.nd rfl (Or.inl rfl) (cM (oy T) hr T.ig (ae (aX bZ (pv 8) (pv 11)) ak)))
   (aB (dh (PW.pt (mV (bF (yg (EN hr)) (pv 13) (cM (FZ T) hr T.sA (ae (pv 5) (ae (aX bY (aX bZ (pv 7) (pv 11)) au) (ae (pv 12) ak)))) (bS _)) (ja (bF (yg (EN hr)) (cM (tQ T) hr T.j7 (ae (pv 13) (ae (pv 9) ak))) (pv 10) (bS _))))) (aB (aW tG)) cu))))))
   (aB (aW (jV (Ly (EN hr)) (cM (oy T) hr T.ig (ae (pv 5) ak)) (pv 2) (bS _)))))))))))))),?_⟩
  refine aP (σ:=[some (.ref a0),none,none,none,none,none,none,none,none,none,none,none,none,none]) rfl ?_;exists ⟨a0,ns,rfl,hS,hlen,λb H0 hb0 B0 s0=>?_⟩;exists ⟨b,rfl,B0,λt1 r w mv pt lk H1 g1 P1 D F RG RL w1 w2 B1 u1=>?_⟩;have n8:=D.n8;have i4:=D.i4;have o4:=D.o4;have et:(bC mv mv.length).length=mv.length:=cO
  have w3:9 < w->mv.length<=2:=λh=>by
   rcases RG with ⟨w9,_⟩ | ⟨w9,_⟩ | ⟨_,n2,_⟩
   ·lia
   ·lia
   ·exact n2
  obtain ⟨m0,p0,l0,gr,nm0,np0,nl0,Gm,Gp,Gl⟩:=id P1;obtain ⟨ms,gm,qm,_⟩:=id Gm;have lm:=qm.length;obtain ⟨AD,SK,LK⟩:=LY RG D;obtain ⟨ADt,SKt,LKt⟩:=LY RL D.turn;rw[et] at ADt LKt;obtain ⟨e8,V8⟩:=IU (T:=mv.length) RG D ⟨by lia,λh=>by have:=w3 h;lia,λ_ h=>h,λh=>by lia⟩;obtain ⟨a,c,KF,_⟩:=V8.un.kf;obtain ⟨e9,V5⟩:=IU (T:=mv.length) RL D.turn (by rw[et];exact ⟨by lia,λh=>by have:=w3 h;lia,λ_ h=>h,λh=>by lia⟩);have UF:=V5.un;clear V5 V8
  have lK:(kry mv pt mv.length).length<=100:=by
   rw[vR];exact ai (aJ n8 i4) (by decide)
  have lKt:(kry (bC mv mv.length) lk mv.length).length<=100:=by
   rw[vR];exact ai (aJ n8 o4) (by decide)
  exists ⟨_,_,rfl,.inl (bU.of gm),?_⟩;rw[show ((ms.length:Nat):Int)=(mv.length:Int) by lia];exists ⟨r,H0,mv,pt,lk,rfl,P1,D,F.sf,λx H2 nx s2 S2=>?_⟩;exists ⟨r,mv.length,H0,mv,pt,lk,rfl,by lia,P1.same s2,D,AD,λq H3 nq s3 G3=>?_⟩;exists ⟨q,mv.length,SK,H2,kry mv pt mv.length,rfl,G3,lK,by lia,fb rfl D.pw _,LK,λl R ps H4 nl s4 G4 RR _=>?_⟩;obtain ⟨vs4,g4,q4,_⟩:=G4;have l4:=q4.length;have lR:=RR.1;exists ⟨_,_,rfl,.inl (bU.of g4),?_⟩;rw[show ((vs4.length:Nat):Int)=(ps.length:Int) by lia];clear g4 q4;have s24:=s3.trans s4;exists ⟨r,mv.length,H0,mv,pt,lk,rfl,by lia,(P1.same s2).same s24,D,ADt,λq5 H5 nq5 s5 G5=>?_⟩;exists ⟨q5,mv.length,SKt,H4,_,rfl,G5,lKt,by lia,fb et (λxs hx=>D.lw xs hx) _,LKt,λl6 R2 ps2 H6 nl6 s6 G6 RR2 _=>?_⟩;obtain ⟨vs6,g6,q6,_⟩:=G6;have l6':=q6.length;have lR2:=RR2.1;exists ⟨_,_,rfl,.inl (bU.of g6),?_⟩;rw[show ((vs6.length:Nat):Int)=(ps2.length:Int) by lia];clear g6 q6;exists c6 λsl H7 s7 nsl gsl=>?_
  have s27:=s24.trans (s5.trans (s6.trans s7));exists ⟨x,a,c,H1,mv,pt,lk,rfl,S2.same s27,D,KF,λft fp R' ps' H8 RR' nfp s8 gft Gf=>?_⟩;obtain ⟨rfl,rfl⟩:=RR'.same RR;clear RR';have s28:=s27.trans s8;exists ⟨x,e9,H1,mv,pt,lk,rfl,S2.same s28,D,F,UF,λft2 fp2 R'' ps'' U pu H9 RR'' RN nfp2 s9 gft2 Gf2=>?_⟩;obtain ⟨rfl,rfl⟩:=RR''.same RR2;clear RR'';exists c6 λfl Ha sa nfl gfl=>?_
  have s8a:=s9.trans sa;have s2a:=s28.trans s8a;exists ⟨x,a,c,H1,mv,pt,lk,rfl,S2.same s2a,D,KF,λRx px hx=>let ⟨_,_,_,_,_,_,_,_,z⟩:=Ph RG D F hx;⟨z.fit n8 hx,_,z.sw n8 hx⟩,λz1 R3 ps3 Hb RR3 sb Sz1=>?_⟩;obtain ⟨rfl,rfl⟩:=RR3.same RR;clear RR3;have s2b:=s2a.trans sb;exists ⟨x,e9,H1,mv,pt,lk,rfl,S2.same s2b,D,F,UF,λRx px Ux qx hx hy=>?_,λz2 R4 ps4 U4 pu4 Hc RR4 RN4 sc Sz2=>?_⟩
  ·obtain ⟨q9,E,q0,q1,E1,E2,tU⟩:=Pk (U:=Ux) RL D.turn (R:=Rx) (ps:=px) (pu:=qx) (by rw[et];exact hx) (by rw[et];exact hy);obtain ⟨M1,M2,V9,a1,a2,c9,z⟩:=Pg RG F n8 q0 q1 E1 E2 tU;obtain ⟨FT,SW⟩:=SG z n8 (vp hy) (kN hy) (λxs hx=>z.tb xs (DY.mp hx)) λxs hx=>z.tc hy xs (DX.mp hx)
   exact ⟨FT,_,SW⟩
  obtain ⟨rfl,rfl⟩:=RR4.same RR2;obtain ⟨rfl,rfl⟩:=RN4.same RN;clear RR4 RN4;exists c6 λtl Hd sd ntl gtl=>?_
  have sbd:=sc.trans sd;have sad:=sb.trans sbd;have s8d:=s8a.trans sad;have s7d:=s8.trans s8d;have s2d:=s2b.trans sbd;have s1d:=s2.trans s2d;have Bd9:=B1.same s1d;have Pd:=P1.same s1d;have ne:∀{Hx:Hp} {q:Addr},aH H1 Hx->Hx q=none->q≠b:=λsx hq z=>B1.at (sx.none (by rw[<- z];exact hq))
  exists ⟨b,r,H0,mv,pt,lk,rfl,Bd9,B0.at,Pd,D,λxs hx=>?_,λT9 Hs stp Bs us=>?_⟩
  ·obtain ⟨M,W,M0,M4,W1,f1,f2,_⟩:=F;rcases az.mp hx with hx | hx
   ·exact sF f1 M0 M4 W1 (by decide) xs hx
   ·exact sF f2 M0 M4 W1 (by decide) xs hx
  have T12:=stp.1;exists ⟨b,r,2+T9,w,H0,mv,pt,lk,by simp,by lia,w1,w2,Bs,B0.at,Pd.upto us Bd9 B0.at,D,λp pus Hq np GP lp wp Bp up=>?_⟩;obtain ⟨M1,M2,V9,a1,a2,c9,e7,d⟩:=QQ RG D stp lp wp;have wp':∀xs∈pus,xs.length=pt.length:=λxs hx=>(wp xs hx).1
  have uo:=us.trans up;have Pp:=Pd.upto uo Bd9 B0.at;exists ⟨r,p,H0,Hs,mv,pt,lk,pus,rfl,Pp,D,GP,by lia,wp',d.nx,λk hk=>d.lf F hk,λdl He nd se Ge=>?_⟩;have RB:=OK KF n8 D.mw D.pw RR
  have RBt:aO (lk++R4.map (ow (bC mv mv.length))) mv.length R4 ps4:=by
   obtain ⟨a',c',KF',_⟩:=UF.kf;have:=OK KF' UF.n8 UF.wm UF.wp (R:=R4) (ps:=ps4) (by rw[et];exact RR2);rwa [et] at this
  obtain ⟨qa,Ea,Qa⟩:=Qk RG D F RR;obtain ⟨qb,Eb,Qb⟩:=Pj (U:=U4) RL D.turn (R:=R4) (ps:=ps4) (pu:=pu4) (by rw[et];exact RR2) (by rw[et];exact RN);rw[et] at Qb;obtain ⟨za,sza⟩:=d.z n8 F Qa;obtain ⟨zb,szb⟩:=d.z n8 F Qb;have ta:=NL za D RR RB d.S wp' sza d.e1 Qa.2.2.1;have tb:=NM zb D RR2 RBt RN d.S wp' szb d.e1 Qb.2.2.1
  have mb:(di pu4 mv.length).length=ps4.length:=by
   obtain ⟨_,_,wq,_,_,q',q0',tp'⟩:=UF.sw (R:=R4) (ps:=ps4) (T:=mv.length) (by rw[et];exact RR2);rw[et] at tp';have:=AV RR2 bI q0' tp' RN;have:=kL RN
   lia
  rw[mb] at tb Sz2 gft2;clear za zb Qa Qb sza szb RB RBt;have u2:∀{q o},Hd q=some o->q≠b->He q=some o:=λh n=>se _ _ (uo.other n h)
  have s1b:=s2.trans s2b
  have PT:∀i,i < 2->∃(m wd:Nat) (rows inv:LR9) (f p' z:Addr) (Hx Hy:Hp),([V.int ps3.length,V.int ps4.length])[i]?=some (.int m)/\([V.ref ft,V.ref ft2])[i]?=some (.ref f)/\([V.ref z1,V.ref z2])[i]?=some (.ref z)/\He f=some (.tup [.ref p',.int m])/\bo K Hx He p' rows/\iW K Hy He Z.a_System z (dB m ((k6 inv mv rows mv.length).take m)) (dB m (mI inv pt)) (dB m (lk.map λxs=>rows.map λr=>cS r xs))/\Oo mv pt lk rows inv pus m wd:=λi hi=>by
   match i,hi with
   | 0,_=>exact ⟨_,_,_,_,ft,fp,z1,H7,Ha,rfl,rfl,rfl,se _ _ (uo.tup Bd9 (s8d _ _ gft)),((Gf.same s8d).upto uo Bd9 (ne (s2.trans s27) nfp) (B1.same (s2.trans s27)).at).same se,((Sz1.same sbd).upto uo Bd9 (B1.same (s2.trans s2a)).at).same se,ta⟩
   | 1,_=>exact ⟨_,_,_,_,ft2,fp2,z2,H8,Hb,rfl,rfl,rfl,se _ _ (uo.tup Bd9 ((sa.trans sad) _ _ gft2)),((Gf2.same (sa.trans sad)).upto uo Bd9 (ne (s2.trans s28) nfp2) (B1.same (s2.trans s28)).at).same se,((Sz2.same sd).upto uo Bd9 (B1.same s1b).at).same se,tb⟩
  have gsl':=u2 (s7d _ _ gsl) (ne ((s2.trans s24).trans (s5.trans s6)) nsl);have gfl':=u2 (sad _ _ gfl) (ne ((s2.trans s28).trans s9) nfl);have gtl':=u2 gtl (ne (s1b.trans sc) ntl);have Xe:=((S2.same s2d).upto uo Bd9 B1.at).same se;have Pe:=Pp.same se;have GPe:=GP.same se;clear ta tb Sz1 Sz2 gsl gfl gtl gft gft2 Gf Gf2;exists ⟨by lia,by lia,?_⟩;refine d5 (n:=2) (λi σ' H'=>aH He H'/\∃y1 y2 y3,σ'=[some (.ref a0),some (.ref b),some (.ref r),some (.int w),some (.int mv.length),some (.ref x),some (.ref sl),some (.ref fl),some (.ref tl),some (.ref p),some (.ref dl),y1,y2,y3]) ⟨aH.refl _,_,_,_,rfl⟩ ?_ ?_
  ·rintro i σ' H' hi ⟨sH,y1,y2,y3,rfl⟩;obtain ⟨m,wd,rows,inv,f,p',z,Hx,Hy,e1,e2,e3,gf,Gr,Sz,tt⟩:=PT i hi;have lC:=GA (mv:=mv) (rows:=rows) tt.hi tt.mn;have DC:=sQ (qd D tt.hi tt.hR) (m:=m) (by rw[fA tt.hi];exact tt.mn);have gf':=sH _ _ gf;obtain ⟨mm,pp,ll,gr',_,_,_,_,Gp',Gl'⟩:=Pe.same sH;obtain ⟨pv,gpv,qpv,_⟩:=id Gp';obtain ⟨lv,glv,qlv,_⟩:=id Gl';have lpv:=qpv.length;have llv:=qlv.length;exists cA (bU.of (sH _ _ gsl')) (dG e1) ?_;exists cA (bU.of (sH _ _ gfl')) (dG e2) ?_;walk_at "w";rw[decide_eq_true rfl];exists cA (bU.of (sH _ _ gtl')) (dG e3) ?_;exists ⟨_,_,rfl,.inl (bU.of gpv),?_⟩;exists ⟨_,_,rfl,.inl (bU.of glv),?_⟩;exists ⟨z,Hy,_,_,_,by rw[lC];unfold dB mI;rw[ag,ag,ag,ag,lpv,llv],Sz.same sH,DC,yy (Iu tt.F.g1),yy tt.F.g2,yy tt.F.g3,λHf sf=>?_⟩;have sHf:=sH.trans sf;exists cA (bU.of (sHf _ _ gtl')) (dG e3) ?_;exists ⟨z,Hy,_,_,_,rfl,Sz.same sHf,λr2 Hg sg P2=>?_⟩;have sHg:=sHf.trans sg;have gf2:=sHg _ _ gf;exists cA (bU.of (sHg _ _ gfl')) (dG e2) ?_;exists ⟨x,p',wd,m,H1,Hx,mv,pt,lk,rows,inv,rfl,⟨Xe.same sHg,D,Gr.same sHg,tt.hR,tt.sw,tt.iv,tt.hi,tt.F,tt.mn⟩,λr3 Hh sh P3=>?_⟩;obtain ⟨x1,x2,x3,gx',_,_,_,Gx1,Gx2,Gx3⟩:=P2.same sh;obtain ⟨y1',y2',y3',gy',_,_,_,Gy1,Gy2,Gy3⟩:=id P3;exists ⟨_,_,OV sD sD sD,(_,_,_),(_,_,_),by decide,⟨r2,_,_,_,rfl,mP.of gx',Gx1.kind,Gx2.kind,Gx3.kind⟩,⟨r3,_,_,_,rfl,mP.of gy',Gy1.kind,Gy2.kind,Gy3.kind⟩,?_⟩;rw[decide_eq_true rfl];have sHh:=sHg.trans sh;exists ⟨r2,p,Hy,Hs,_,_,_,pus,rfl,P2.same sh,DC,GPe.same sHh,by lia,λxs hx=>by unfold dB mI;rw[ag,ag];exact wp' xs hx,by rw[lC];exact tt.nx,by rw[lC];exact tt.lf,λq9 Hi nq9 si9 G9=>?_⟩;exists ⟨_,_,sD,_,_,by decide,G9.kind,(Ge.same (sHh.trans si9)).kind,?_⟩;rw[decide_eq_true tt.lo];exists ⟨sHh.trans si9,_,_,_,rfl⟩
  ·rintro σ' H' ⟨sH,y1,y2,y3,rfl⟩;exists ⟨x,H1,mv,pt,lk,rfl,Xe.same sH,λr2 Hg sg P2=>?_⟩;obtain ⟨x1,x2,x3,gx',_,_,_,Gx1,Gx2,Gx3⟩:=id P2;obtain ⟨y1',y2',y3',gy',_,_,_,Gy1,Gy2,Gy3⟩:=Pe.same (sH.trans sg);exists ⟨_,_,OV sD sD sD,(_,_,_),(_,_,_),by decide,⟨r2,_,_,_,rfl,mP.of gx',Gx1.kind,Gx2.kind,Gx3.kind⟩,⟨r,_,_,_,rfl,mP.of gy',Gy1.kind,Gy2.kind,Gy3.kind⟩,?_⟩;rw[decide_eq_true rfl];exact k _
end
theorem ln1 {P:List Value->Prop} (h:∀x0,P [x0]):∀us:List Value,us.length=1->P us
 | [x0],_=>h x0
theorem ln2 {P:List Value->Prop} (h:∀x0 x1,P [x0,x1]):∀us:List Value,us.length=2->P us
 | [x0,x1],_=>h x0 x1
theorem ln3 {P:List Value->Prop} (h:∀x0 x1 x2,P [x0,x1,x2]):∀us:List Value,us.length=3->P us
 | [x0,x1,x2],_=>h x0 x1 x2
theorem ln4 {P:List Value->Prop} (h:∀x0 x1 x2 x3,P [x0,x1,x2,x3]):∀us:List Value,us.length=4->P us
 | [x0,x1,x2,x3],_=>h x0 x1 x2 x3
theorem ln5 {P:List Value->Prop} (h:∀x0 x1 x2 x3 x4,P [x0,x1,x2,x3,x4]):∀us:List Value,us.length=5->P us
 | [x0,x1,x2,x3,x4],_=>h x0 x1 x2 x3 x4
local macro_rules | `(tactic| walk_at "b") => `(tactic| (intro _ _ _ _ _ _; first | (refine ln1 ?_; intros; rfl) | (refine ln2 ?_; intros; rfl) | (refine ln3 ?_; intros; rfl) | (refine ln4 ?_; intros; rfl) | (refine ln5 ?_; intros; rfl)))
theorem all_mk {l:W.OpenLaw} {K:W.Frag} {e0 e1 e2 e3 e4 e5 e6 e7 e8 e9 e10 e11 e12 e13 e14 e15 e16 e17 e18 e19 e20 e21 e23 e24 e25 e26 e27 e28 e29 e30 e31 e32 e33 e34 e35 e36 e37 e38 e39 e40 e41 e42 e43 e44 e45 e46 e47 e48 e49 e50 e51 e52 e53 e54 e56 e57 e58 e59 e60 e61 e62 e63 e64 e65 e66 e67 e68 e69 e70 e71 e72 e73 e74 e75 e76 e77 e78 e79:FuncData}
 
  (X:K.In h) (G:h.Ns mainGlobals mg) (hfa:mg "law"=some (.ref fa))
 (aC:W.nsIn K mainGlobals "System"=some (some (.ref C)))
  (h0:Dh K "_law_bag" uM f0 e0)
  (h1:Dh K "_law_take" rB f1 e1)
  (h2:Dh K "_law_sizes" kO f2 e2)
  (h3:Dh K "_law_line" rL f3 e3)
  (h4:Dh K "_law_low" uJ f4 e4)
  (h5:Dh K "_law_sum" uH f5 e5)
  (h6:Dh K "_law_plus" rF f6 e6)
  (h7:Dh K "_law_prod" rE f7 e7)
  (h8:Dh K "_law_by" xV f8 e8)
  (h9:Dh K "_law_mixed" pG f9 e9)
  (h10:Dh K "_law_two_lines" jC f10 e10)
  (h11:Dh K "_law_number" nJ f11 e11)
  (h12:Dh K "_law_row" uI f12 e12)
  (h13:Dh K "_law_move" rJ f13 e13)
  (h14:Dh K "_law_parts" pF f14 e14)
  (h15:Dh K "_law_system" nI f15 e15)
  (h16:Dh K "want_list" rj f16 e16)
  (h17:Dh K "is_whole" uF f17 e17)
  (h18:Dh K "common_divisor" jB f18 e18)
  (h19:Dh K "is_number" rA f19 e19)
  (h20:Dh K "is_row" Aw f20 e20)
  (h21:Dh K "copied_rows" nH f21 e21)
  (a22:W.findIn K (.ref C) "__init__"=some (some (.ref f22))) (i22:W.isFn K (.ref f22)=true) (l22:K.lookup f22=some ⟨oc22,od22,.func (W.fnOf "__init__" "System.__init__" (lD dX) (jq dX) (aI dX) .none kV22 dc22 pm22 an22 cd22 ct22),sl22⟩) (c22:W.codeIn K cd22 "System.__init__"=true) (k22:W.keepIn K (.ref f22)=true)
  (h23:Dh K "_law_copied" nL f23 e23)
  (h24:Dh K "_law_made" rK f24 e24)
  (h25:Dh K "_law_quot" rC f25 e25)
  (h26:Dh K "_law_less" rM f26 e26)
  (h27:Dh K "_law_minus" pH f27 e27)
  (h28:Dh K "_law_lean" rN f28 e28)
  (h29:Dh K "_law_dot" uK f29 e29)
  (h30:Dh K "_law_on" xU f30 e30)
  (h31:Dh K "_law_added" pJ f31 e31)
  (h32:Dh K "_law_over" rG f32 e32)
  (h33:Dh K "_law_shown" pC f33 e33)
  (h34:Dh K "tops_over" rn f34 e34)
  (h35:Dh K "common_multiple" i8 f35 e35)
  (h36:Dh K "common_bottom" kx f36 e36)
  (h37:Dh K "first_with" pz f37 e37)
  (h38:Dh K "cleared" xT f38 e38)
  (h39:Dh K "brought_up" pA f39 e39)
  (h40:Dh K "swept" Eh f40 e40)
  (h41:Dh K "lowest" Av f41 e41)
  (h42:Dh K "reduced" xN f42 e42)
  (h43:Dh K "row_dot" xM f43 e43)
  (h44:Dh K "grid_on" xS f44 e44)
  (h45:Dh K "moved_rows" o9 f45 e45)
  (h46:Dh K "reach_grown" nE f46 e46)
  (h47:Dh K "reach_rows" o8 f47 e47)
  (h48:Dh K "unit_row" uE f48 e48)
  (h49:Dh K "leading_place" kv f49 e49)
  (h50:Dh K "leading" xQ f50 e50)
  (h51:Dh K "free_places" nG f51 e51)
  (h52:Dh K "free_units" ph f52 e52)
  (h53:Dh K "steered_first" ks f53 e53)
  (h54:Dh K "grid_turned" nF f54 e54)
  (a55:W.findIn K (.ref C) "turned"=some (some (.ref f55))) (i55:W.isFn K (.ref f55)=true) (l55:K.lookup f55=some ⟨oc55,od55,.func (W.fnOf "turned" "System.turned" (lD eV) (jq eV) (aI eV) .none kV55 dc55 pm55 an55 cd55 ct55),sl55⟩) (c55:W.codeIn K cd55 "System.turned"=true) (k55:W.keepIn K (.ref f55)=true)
  (h56:Dh K "minus" Ej f56 e56)
  (h57:Dh K "null_at" xP f57 e57)
  (h58:Dh K "nulls" Ei f58 e58)
  (h59:Dh K "unseen_rows" nD f59 e59)
  (h60:Dh K "seen_first" o7 f60 e60)
  (h61:Dh K "unit_grid" rk f61 e61)
  (h62:Dh K "inverse" xR f62 e62)
  (h63:Dh K "grid_times" pe f63 e63)
  (h64:Dh K "in_basis" uG f64 e64)
  (h65:Dh K "first_places" ma f65 e65)
  (h66:Dh K "part_by" xO f66 e66)
  (h67:Dh K "steered_part" l9 f67 e67)
  (h68:Dh K "seen_part" rz f68 e68)
  (h69:Dh K "_law_puts" rD f69 e69)
  (h70:Dh K "_law_steps" pB f70 e70)
  (h71:Dh K "_law_next" rH f71 e71)
  (h72:Dh K "_law_looks" pI f72 e72)
  (h73:Dh K "_law_is_number" jE f73 e73)
  (h74:Dh K "_law_is_row" nK f74 e74)
  (h75:Dh K "_law_is_grid" md f75 e75)
  (h76:Dh K "_law_is_system" jD f76 e76)
  (h77:Dh K "_law_parts_of" ky f77 e77)
  (h78:Dh K "_law_cut" uL f78 e78)
  (h79:Dh K "law" Lc f79 e79)
 (ca0:W.nsIn K mainGlobals "NOUGHT"=some (some (.ref m0))) (cl0:K.lookup m0=some ⟨.type "tuple",mo0,.seq #[.int 0 mt0_0,.int 1 mt0_1] mn0,ms0⟩)
 (ca1:W.nsIn K mainGlobals "ONE"=some (some (.ref m1))) (cl1:K.lookup m1=some ⟨.type "tuple",mo1,.seq #[.int 1 mt1_0,.int 1 mt1_1] mn1,ms1⟩)
 (ci0:W.nsIn K mainGlobals "MOST_STATES"=some (some (.int 8 it0)))
 (ci1:W.nsIn K mainGlobals "MOST_PUTS"=some (some (.int 4 it1)))
 (ci2:W.nsIn K mainGlobals "MOST_LOOKS"=some (some (.int 4 it2)))
  (pg:W.plainGet K C Str.empty=true) (hd:W.hasDictIn K C=true) (po:W.plainOver K C=true) (sa:W.findIn K (.ref C) "__setattr__"=some (some (.builtin "object.__setattr__"))) (mk:W.makesIn K C=true) (kc:W.keepIn K (.ref C)=true)
  (n_move:W.findIn K (.ref C) "move"=some none)
  (n_states:W.findIn K (.ref C) "states"=some none)
  (n_put:W.findIn K (.ref C) "put"=some none)
  (n_ins:W.findIn K (.ref C) "ins"=some none)
  (n_look:W.findIn K (.ref C) "look"=some none)
  (n_outs:W.findIn K (.ref C) "outs"=some none)
  (ia:W.findIn K (.ref C) "__class__"=some (some (.builtin "object.__class__"))) (ib:W.specialIn K (.builtin "object.__class__") "__get__"=some (some (.builtin "getset_descriptor.__get__"))) (ic:W.takesIn K (.builtin "object.__class__")=some true) (id:W.mroIn K C (.type "object")=some true)
  (z_abs:W.nsIn K mainGlobals "abs"=some none)
  (z_len:W.nsIn K mainGlobals "len"=some none)
  (z_min:W.nsIn K mainGlobals "min"=some none)
  (z_int:W.nsIn K mainGlobals "int"=some none)
  (z_range:W.nsIn K mainGlobals "range"=some none)
  (z_isinstance:W.nsIn K mainGlobals "isinstance"=some none)
  (z_list:W.nsIn K mainGlobals "list"=some none)
  (z_bool:W.nsIn K mainGlobals "bool"=some none)
  (z_tuple:W.nsIn K mainGlobals "tuple"=some none)
  (z_all:W.nsIn K mainGlobals "all"=some none)
  (z_enumerate:W.nsIn K mainGlobals "enumerate"=some none)
  (z_zip:W.nsIn K mainGlobals "zip"=some none)
  (z_sum:W.nsIn K mainGlobals "sum"=some none)
  (z_max:W.nsIn K mainGlobals "max"=some none)
  : ∃fd:FuncData,(∀(s:Shared) (v:Value),BindsTo s fd ⟨[v],[]⟩ [("_law_script",v)])/\∀base:Heap,K.In base->base.Ns mainGlobals mg->cK l.prog w K mg base fu 12 fa fd ["_law_script"] (Am K):=by
 have e:=hfa.symm.trans (W.mg_of X G h79.a);cases e;obtain ⟨_,_,_,_,_,_,_,_,_,rfl,_,_⟩:=h79.F.ex;have F22:=Ic (st:=dX) l22 c22 k22;have F55:=Ic (st:=eV) l55 c55 k55
 have T:Txt K mg ⟨f0,_,f1,_,f2,_,f3,_,f4,_,f5,_,f6,_,f7,_,f8,_,f9,_,f10,_,f11,_,f12,_,f13,_,f14,_,f15,_,f16,_,f17,_,f18,_,f19,_,f20,_,f21,_,f22,_,f23,_,f24,_,f25,_,f26,_,f27,_,f28,_,f29,_,f30,_,f31,_,f32,_,f33,_,f34,_,f35,_,f36,_,f37,_,f38,_,f39,_,f40,_,f41,_,f42,_,f43,_,f44,_,f45,_,f46,_,f47,_,f48,_,f49,_,f50,_,f51,_,f52,_,f53,_,f54,_,f55,_,f56,_,f57,_,f58,_,f59,_,f60,_,f61,_,f62,_,f63,_,f64,_,f65,_,f66,_,f67,_,f68,_,f69,_,f70,_,f71,_,f72,_,f73,_,f74,_,f75,_,f76,_,f77,_,f78,_,fa,_,m0,m1,it0,it1,it2,C⟩:={
  sC:=h0.D X G
  a9:=h1.D X G
  nV:=h2.D X G
  ji:=h3.D X G
  eE:=h4.D X G
  iQ:=h5.D X G
  kY:=h6.D X G
  ie:=h7.D X G
  iI:=h8.D X G
  j5:=h9.D X G
  jh:=h10.D X G
  mG:=h11.D X G
  iS:=h12.D X G
  p4:=h13.D X G
  nX:=h14.D X G
  mE:=h15.D X G
  je:=h16.D X G
  mY:=h17.D X G
  eZ:=h18.D X G
  pV:=h19.D X G
  yo:=h20.D X G
  gX:=h21.D X G
  fg:=F22.binds (ps:=["self","move","put","look"]) λ_ _ _ _ _ _=>by refine ln4 ?_;intros;rfl
  ng:=F22
  gY:=h23.D X G
  p5:=h24.D X G
  pW:=h25.D X G
  p6:=h26.D X G
  j6:=h27.D X G
  kZ:=h28.D X G
  m4:=h29.D X G
  mF:=h30.D X G
  nY:=h31.D X G
  pY:=h32.D X G
  nW:=h33.D X G
  jf:=h34.D X G
  iH:=h35.D X G
  fK:=h36.D X G
  nQ:=h37.D X G
  uV:=h38.D X G
  nR:=h39.D X G
  AX:=h40.D X G
  oA:=h41.D X G
  jM:=h42.D X G
  uS:=h43.D X G
  jO:=h44.D X G
  nP:=h45.D X G
  mC:=h46.D X G
  jX:=h47.D X G
  kg:=h48.D X G
  jN:=h49.D X G
  mD:=h50.D X G
  jg:=h51.D X G
  jZ:=h52.D X G
  hZ:=h53.D X G
  gW:=h54.D X G
  oB:=⟨a55,i55,k55⟩
  qI:=F55.binds (ps:=["self"]) λ_ _ _ _ _ _=>by refine ln1 ?_;intros;rfl
  qN:=F55
  AZ:=h56.D X G
  uT:=h57.D X G
  AY:=h58.D X G
  mB:=h59.D X G
  jW:=h60.D X G
  pS:=h61.D X G
  uU:=h62.D X G
  jY:=h63.D X G
  mZ:=h64.D X G
  fZ:=h65.D X G
  pU:=h66.D X G
  kF:=h67.D X G
  pT:=h68.D X G
  pX:=h69.D X G
  nU:=h70.D X G
  pZ:=h71.D X G
  j7:=h72.D X G
  jm:=h73.D X G
  mH:=h74.D X G
  gs:=h75.D X G
  jk:=h76.D X G
  ig:=h77.D X G
  sA:=h78.D X G
  O9:=h79.F
  abs:=W.mg_none_of X G z_abs
  len:=W.mg_none_of X G z_len
  min:=W.mg_none_of X G z_min
  int:=W.mg_none_of X G z_int
  range:=W.mg_none_of X G z_range
  isinstance:=W.mg_none_of X G z_isinstance
  list:=W.mg_none_of X G z_list
  bool:=W.mg_none_of X G z_bool
  tuple:=W.mg_none_of X G z_tuple
  all:=W.mg_none_of X G z_all
  enumerate:=W.mg_none_of X G z_enumerate
  zip:=W.mg_none_of X G z_zip
  sum:=W.mg_none_of X G z_sum
  max:=W.mg_none_of X G z_max
  mg_NOUGHT:=W.mg_of X G ca0
  sq_NOUGHT:=λH=>.inr ⟨_,_,_,cl0,rfl,rfl,iX rfl,.cons ⟨_,rfl⟩ (.cons ⟨_,rfl⟩ (.nil))⟩
  mg_ONE:=W.mg_of X G ca1
  sq_ONE:=λH=>.inr ⟨_,_,_,cl1,rfl,rfl,iX rfl,.cons ⟨_,rfl⟩ (.cons ⟨_,rfl⟩ (.nil))⟩
  mg_MOST_STATES:=W.mg_of X G ci0
  mg_MOST_PUTS:=W.mg_of X G ci1
  mg_MOST_LOOKS:=W.mg_of X G ci2
  mg_System:=W.mg_of X G aC
  cl_System:=⟨pg,hd,po,sa⟩
  na_move:=n_move
  na_states:=n_states
  na_put:=n_put
  na_ins:=n_ins
  na_look:=n_look
  na_outs:=n_outs
  mk_System:=⟨mk,a22,i22,kc⟩
  ty_System:=⟨λe=>.ins e ⟨pg,hd,po,sa⟩ ia ib ic id,LW⟩ }
 exact ⟨_,λs v=>.of_eq rfl,λbase _ _=>Qr T⟩
theorem walk {l:W.OpenLaw} {K:Params->W.Frag} (hn:l.most=some 63) (hdf:d.params.defaults=[])
  (hY:∀(w:World) (h:Heap),YP w h->(K w.params).In h)
  (F:∀(w:World) (mg:Str->Option Value) (fa:Addr) (h:Heap),(K w.params).In h->h.Ns mainGlobals mg->mg d.name=some (.ref fa) →
   ∃fd:FuncData,(∀(s:Shared) (u:Value),BindsTo s fd ⟨[u],[]⟩ [("_law_script",u)])/\∀base:Heap,(K w.params).In base->base.Ns mainGlobals mg->cK l.prog w (K w.params) mg base fu 12 fa fd ["_law_script"] (Am (K w.params))) :
  W.WalkO q loose XP YP l.row.toRowW d [] (λf vs=>PySem.call f vs) :=
 L2.MU (n:=63) (k:=12) (x:="_law_script") (CX:=λ_=>fu) (sp:=λw=>Am (K w.params)) hn (by decide) hdf ⟨rfl,by decide,by decide⟩ hY F (λ_ _ a ns hl _ hS=>⟨a,ns,rfl,hS,hl,λ_=>rfl⟩) λ_ _ _ _ _ z=>z
end Lw
namespace PySem.W.Fast
def tw16797185665700931460:=()
def tw6382046065559963381:=()
def tw13302887345965856723:=()
def tw1137968496479066030:=()
def tw17340722308550457385:=()
def tw12036876138606612183:=()
def tw13289169809043535994:=()
def tw1285049606106446544:=()
def tw8170936313554587104:=()
def tw2187718664132436005:=()
def tw677118149997505750:=()
def tw8179579019447429034:=()
def tw3718982059450456709:=()
def tw2407991053170008775:=()
def tw16072554227765094714:=()
def tw13903080271054007906:=()
def tw13972275878124393054:=()
def tw16402495420166322136:=()
def tw16350102382108496368:=()
def tw14463804822722739853:=()
def tw14885021355659643519:=()
def tw872809390086340101:=()
def tw873079587391075958:=()
def tw17882200993365587029:=()
def tw15115078804645606947:=()
def tw14817820516284216888:=()
def tw1048040354967370499:=()
def tw12543551747374868022:=()
def tw7245320833967457072:=()
def tw16336327080989382435:=()
def tw338664086247154457:=()
def tw486059754904667247:=()
def tw13768474746031430287:=()
def tw15200697067150618641:=()
def tw10836599217598646588:=()
def tw3145655650987511137:=()
def tw6452189177304972390:=()
def tw5844770037815662539:=()
def tw10087080904590294120:=()
def tw11700194327042384335:=()
def tw2814003289358399037:=()
def tw667720558069377687:=()
def tw11539494169086803734:=()
def tw10131265644737622943:=()
def tw13493565223545095409:=()
def tw15886855232631114922:=()
def tw6345675895925623988:=()
def tw8066005868911713142:=()
def tw3139740717241856976:=()
def tw10195621414668824521:=()
def tw4261736600496215373:=()
def tw14657713748924094767:=()
def tw10435105322815580386:=()
def tw573778082723194162:=()
def tw13521333176517034080:=()
def tw12976879353420121603:=()
def tw15600227218384039063:=()
def tw4785280115481861042:=()
def tw11774914894205785543:=()
def tw15672304526464863995:=()
def tw17675801933477469753:=()
def tw1989251099608816970:=()
def tw10321495512020386147:=()
def tw2060187212180092215:=()
def tw11078143615020825370:=()
def tw17127416935973953414:=()
def tw11499229253712602364:=()
def tw6829126327105111865:=()
def tw3113996738858689925:=()
def tw17986740321894523158:=()
def tw8681506569855418891:=()
def tw6871376156729001319:=()
def tw10325775992716563741:=()
def tw1725068930513780482:=()
def tw5702582748429174246:=()
def tw4958244675226941532:=()
def tw11680297472351459845:=()
def tw11933433311759423222:=()
def tw14602823575119596740:=()
def tw15896282972961358573:=()
def tw14593175822412678645:=()
def tw10202257732595813796:=()
def tw11488250617808115542:=()
def tw15360150885365283357:=()
def tw7147267567295148255:=()
def tw16191217488614049072:=()
def tw5708666369966472131:=()
def tw15229370004204492518:=()
def tw10088699007251872463:=()
def tw8205272097597253956:=()
def tw11707764764945157738:=()
def tw16254882909361140688:=()
def tw11352371486940637378:=()
def tw8442887369170493169:=()
def tw3648056889137566187:=()
def tw6158450427250084592:=()
def tw18139968054997735201:=()
def tw3029933295734031755:=()
def tw14012192468850250712:=()
def tw7021228130985012069:=()
def tw71678365925900350:=()
def tw3518471358321809701:=()
def tw14581652736825572810:=()
def tw12693949364656868530:=()
def tw6691382443762154750:=()
def tw6610898087827534053:=()
def tw417876650261223368:=()
def tw15734416520724022429:=()
def tw14574800481154253921:=()
def tw6571533298177944165:=()
def tw2483584674724960788:=()
def tw9899274193709519913:=()
def tw7358469327359188853:=()
def tw12839304054473038345:=()
def tw10659424986787137232:=()
def tw14608889015599790928:=()
def tw6297471655965724634:=()
def tw6529724574363532662:=()
def tw11242712155531365230:=()
def tw14633883125680293669:=()
def tw15792599098761230502:=()
def tw2073193345528503443:=()
def tw7837050735212968473:=()
def tw8075469522108657495:=()
def tw12829021481427662565:=()
def tw18277478803023065970:=()
def tw8874005524502154080:=()
def tw12014429989480983351:=()
def tw5152549377939837286:=()
def tw13582631645793568901:=()
def tw3018796015870952701:=()
def tw6000460501256556385:=()
def tw14133486093717731522:=()
def tw11054478441060662414:=()
def tw17561257291536021856:=()
def tw18024996997428898944:=()
def tw11217538465036253914:=()
def tw221129515288595806:=()
def tw2278416885269414368:=()
def tw7231711133417166561:=()
def tw10066747987664218233:=()
def tw15150690179283904228:=()
def tw14314758201529869896:=()
def tw10447515996372462377:=()
def tw15859458097281455223:=()
def tw14369489568406192447:=()
def tw9668369974124880184:=()
def tw8676465882031757458:=()
def tw7160509987341918328:=()
def tw13917204389861316377:=()
def tw14891131947811921649:=()
def tw10083931726059454771:=()
def tw4055203526288972635:=()
def tw16524676542868145292:=()
def tw14664369162741046824:=()
def tw168663799074215327:=()
def tw11678665859697958420:=()
def tw13019473774840420894:=()
def tw3230825842945787767:=()
def tw16202147207456859223:=()
def tw3636832878407456993:=()
def tw11398714389394129115:=()
def tw3458868655212090600:=()
def tw4858467138390796083:=()
def tw18196400372776789149:=()
def tw12608876672023241729:=()
def tw15354628007017941596:=()
def tw2217551414136902894:=()
def tw14315272286213718330:=()
def tw5671780824259233636:=()
def tw12783753130661769089:=()
def tw8569820517957878792:=()
def tw10908380725653115420:=()
def tw17710539214147053711:=()
def tw10190795804539064834:=()
def tw18035808122950003005:=()
def tw1598674402929260452:=()
def tw11307213812196945184:=()
def tw12878684025058774308:=()
def tw18170764448175553036:=()
def tw12358523595270356914:=()
def tw9666292520521615267:=()
def tw5762378355224438886:=()
def tw11802575740359754223:=()
def tw852019377049191614:=()
def tw4232768138732137552:=()
def tw15068673953709466081:=()
def tw10409129031101108594:=()
def tw3159705641644953230:=()
def tw13534430929935800275:=()
def tw17896120720537788282:=()
def tw11429901844653026470:=()
def tw7316761334843067370:=()
def tw18018006218495999611:=()
def tw17069753083185363231:=()
def tw5981488121531377609:=()
def tw8878271427140910838:=()
def tw9392891915062473503:=()
def tw6751516689841736706:=()
def tw8849628926388616025:=()
def tw1112338667784480536:=()
def tw12496346933666428021:=()
def tw7768072740214641561:=()
def tw2495549184896086828:=()
def tw8622352849025808864:=()
def tw1238684160777695762:=()
def tw12709469737010300042:=()
def tw8505118471311216651:=()
def tw16724450769208189900:=()
def tw5338815195966145479:=()
def tw395553812816601937:=()
def tw1878992993986547258:=()
def tw7585026489285438383:=()
def tw8319895444650396315:=()
def tw13190849312800098712:=()
def tw18097658469556871519:=()
def tw11705859820449988868:=()
def tw11566042046271488373:=()
def tw13681135498325311112:=()
def tw9608734346414805402:=()
def tw13385392982888572520:=()
def tw15215836260735869334:=()
def tw15227636528691598608:=()
def tw14573300518802421621:=()
def tw4551448529191711481:=()
def tw3983873765028788072:=()
def tw12487517925638447033:=()
def tw14113496450174019551:=()
def tw15002828318008659056:=()
def tw817166309024104185:=()
def tw17903465222108125946:=()
def tw1649089430885445552:=()
def tw12211518626951235421:=()
def tw12313435941895265379:=()
def tw13678872939895909015:=()
def tw1725882364900535623:=()
def tw7798816471801908562:=()
def tw7468691056572290648:=()
def tw3395552487707158237:=()
def tw15385824332958769769:=()
def tw2765186359046123229:=()
def tw10159843537364306447:=()
def tw1721708846368225711:=()
def tw14045589868317622648:=()
def tw17700708202957355330:=()
def tw16935458960683095068:=()
def tw8679470382309398138:=()
def tw11984683281649083889:=()
def tw13325064638663633650:=()
def tw13086774482057335220:=()
def tw2528961892383238895:=()
def tw17679665314828329911:=()
def tw11315725975038424688:=()
def tw14251278404061351285:=()
def tw9207956958891978877:=()
def tw8424216243217628479:=()
def tw12134356766558515578:=()
def tw4761783774763566980:=()
def tw5983884818029813061:=()
def tw6883032192555825747:=()
def tw4394710557856239552:=()
def tw1992328584253678190:=()
def tw1257229251556152217:=()
def tw5884351949962260342:=()
def tw11071751714279084194:=()
def tw16725577546644699710:=()
def tw7558842704607433738:=()
def tw12116329331909833041:=()
def tw5135165009432004507:=()
def tw14879936980349502390:=()
def tw18294772304050082671:=()
def tw10160633556130328173:=()
def tw14270264837825750041:=()
def tw1806779565853279834:=()
def tw3184592082551297497:=()
def tw8537247073455933582:=()
def tw4875680563694404887:=()
def tw14854241540020710346:=()
def tw16463602941012300045:=()
def tw801759588154696700:=()
def tw4701776306137545737:=()
def tw8507780746476425517:=()
def tw11560932261440597483:=()
def tw13848560765403920038:=()
def tw5584697051188597919:=()
def tw10839921762478539185:=()
def tw18148697123385310998:=()
def tw17948726744194861302:=()
def tw14612004295635178324:=()
def tw16493147871110366110:=()
def tw14787422392192030602:=()
def tw10088296034466435786:=()
def tw43073097588908836:=()
def tw5964736367887029352:=()
def tw15219392939154684132:=()
def tw5414775435328182660:=()
def tw10125220135217830242:=()
def tw12142211535929585910:=()
def tw12349578081831786513:=()
def tw4655640684519676112:=()
def tw2944767405591440705:=()
def tw5678761185521596119:=()
def tw17220010625712179318:=()
def tw8036343275241171700:=()
def tw14666534547989633810:=()
def tw7849177871100423166:=()
def tw3487430290750508094:=()
def tw12703704398872740105:=()
def tw13326282256928857913:=()
def tw15168213350382023838:=()
def tw7675008572821118645:=()
def tw10406881693338053834:=()
def tw11267892142879741154:=()
def tw1652242287472161733:=()
def tw9931561378411955577:=()
def tw2788516252016769128:=()
def tw1560837591832486021:=()
def tw7786484740050830830:=()
def tw10954322855532768389:=()
def tw13060241140038111503:=()
def tw7646073457483961794:=()
def tw12571794197719463512:=()
def tw10153802908247803164:=()
def tw16268894578774896753:=()
def tw8182461660120444795:=()
def tw4546317134444872015:=()
def tw4931653236601954719:=()
def tw2075144638328932800:=()
def tw8952719546488670981:=()
def tw209768993109365087:=()
def tw12008340993597213204:=()
def tw3567485197363404185:=()
def tw10032628847013785031:=()
def tw3185053964160009235:=()
def tw12437058393402841810:=()
def tw13327225982990266056:=()
def tw7881274533631159163:=()
def tw5183218579310896219:=()
def tw9918901085217079654:=()
def tw3699083201206284121:=()
def tw6907729714445711173:=()
def tw7137995284329413417:=()
def tw7985516636267864865:=()
def tw16616816314066594796:=()
def tw5884567595540511425:=()
def tw13924954414268047486:=()
def tw16031343156237296281:=()
def tw5549619087358252084:=()
def tw11540739935011369225:=()
def tw8028577012809992010:=()
def tw8625626949961425701:=()
def tw2639146573284683570:=()
def tw8354099003249847512:=()
def tw10261486606123087583:=()
def tw7132372721602703896:=()
def tw479390381313285516:=()
def tw7909526527759757169:=()
def tw1476947873062888888:=()
def tw3898304410265786591:=()
def tw8568182844084825398:=()
def tw693474815017176080:=()
def tw3777096897933712687:=()
def tw1088034717377305662:=()
def tw17165017480868709383:=()
def tw4327961368378852183:=()
def tw13050802546674784641:=()
def tw16740215354471954235:=()
def tw14262537274871585962:=()
def tw11162209332267521922:=()
def tw5313912296818186783:=()
def tw10637147548938104196:=()
def tw13364315836025084063:=()
def tw14967254127635212044:=()
def tw1435690322701219860:=()
def tw16677800271622576593:=()
def tw18008809638745235985:=()
def tw11209255249968670004:=()
def tw18309043887744637657:=()
def tw16934525489319866952:=()
def tw8028333165233313456:=()
def tw1025547344890566961:=()
def tw6874043403610544223:=()
def tw3581566233639788033:=()
def tw13676776895969426121:=()
def tw11773771582441967091:=()
def tw10564015506205400097:=()
def tw9981143135360329210:=()
def tw12818763938658612232:=()
def tw12812606647362816765:=()
def tw5224871380219057193:=()
def tw16362019642066636857:=()
def tw8538356351225744192:=()
def tw3342631608597736196:=()
def tw15328370892535197185:=()
def tw10938121171805704988:=()
def tw1687756843987535128:=()
def tw16769298217718045554:=()
def tw15240626429379067144:=()
def tw9651469820398683961:=()
def tw10736550051498115220:=()
def tw14967899563168147248:=()
def tw11603667190091898349:=()
def tw13962233668089645457:=()
def tw8075958247219815009:=()
def tw2194366362972462572:=()
def tw5322066981674390356:=()
def tw13978607832264963692:=()
def tw6800936794979448797:=()
def tw4447519164876244906:=()
def tw8728231282661154478:=()
def tw6104451525557663731:=()
def tw10327650387840612446:=()
def tw17027199371354910484:=()
def tw10754192651334957171:=()
def tw8392054880258535261:=()
def tw4150155136644791012:=()
def tw5594557596746629170:=()
def tw1473419310432340236:=()
def tw1589354288124496676:=()
def tw6354078217244661172:=()
def tw5780750187307555038:=()
def tw3310766419179379026:=()
def tw3211327870294074784:=()
def tw12882623691593606596:=()
def tw11829708598448400747:=()
def tw12989136653910662794:=()
def tw12573813646629816277:=()
def tw1726645121673049774:=()
def tw16153136129789673806:=()
def tw2990828918360107020:=()
def tw13588835615788700365:=()
def tw2788818153852108034:=()
def tw17097114558103790292:=()
def tw10442967634215811397:=()
def tw6681481542862626060:=()
def tw15948416020867012941:=()
def tw12131220005263454430:=()
def tw18299737386482037390:=()
def tw16502671115189159244:=()
def tw18421177079314765473:=()
def tw14489437013102324594:=()
def tw2904762913939758303:=()
def tw3175164424750957275:=()
def tw18286913435489610465:=()
def tw14840160912438856047:=()
def tw13236806999832620574:=()
def tw12877694409802091942:=()
def tw11674415307258515505:=()
def tw11967937143276423684:=()
def tw2142224262152133516:=()
def tw16716431907576498176:=()
def tw11970086546152451562:=()
def tw10267464560087514532:=()
def tw13017465856302071570:=()
def tw11806466400520344192:=()
def tw15565612662961889345:=()
def tw10808752986424061305:=()
def tw12679967553419787102:=()
def tw6325323306444974241:=()
def tw14436721028245544168:=()
theorem te16797185665700931460:True:=trivial
end PySem.W.Fast
open PySem PySem.W PyProof.Rows
set_option maxRecDepth 100000 in
set_option maxHeartbeats 0 in
theorem PySem.Challenge.cw_helmsum_k74_parts_alike_holds : PySem.Challenge.rw_helmsum_k74_parts_alike.Holds := by
 w_on;o_law;k_head;(case hw=>w_witness2)
 k_fill
 refine Lw.walk (l:=PySem.Challenge.rw_helmsum_k74_parts_alike) rfl rfl (λw h Y=>PySem.W.kIn_of Y) ?F
 case F =>
  intro w mg fa h KX G hmg;refine' Lw.all_mk KX G hmg ?aC ?_ ?_ ?_ ?_ ?_ ?_ ?_ ?_ ?_ ?_ ?_ ?_ ?_ ?_ ?_ ?_ ?_ ?_ ?_ ?_ ?_ ?_ ?a22 ?i22 ?l22 ?c22 ?k22 ?_ ?_ ?_ ?_ ?_ ?_ ?_ ?_ ?_ ?_ ?_ ?_ ?_ ?_ ?_ ?_ ?_ ?_ ?_ ?_ ?_ ?_ ?_ ?_ ?_ ?_ ?_ ?_ ?_ ?_ ?_ ?_ ?a55 ?i55 ?l55 ?c55 ?k55 ?_ ?_ ?_ ?_ ?_ ?_ ?_ ?_ ?_ ?_ ?_ ?_ ?_ ?_ ?_ ?_ ?_ ?_ ?_ ?_ ?_ ?_ ?_ ?_ ?ca0 ?cl0 ?ca1 ?cl1 ?ci0 ?ci1 ?ci2 ?pg ?hd ?po ?sa ?mk ?kc ?n_move ?n_states ?n_put ?n_ins ?n_look ?n_outs ?ia ?ib ?ic ?id ?z_abs ?z_len ?z_min ?z_int ?z_range ?z_isinstance ?z_list ?z_bool ?z_tuple ?z_all ?z_enumerate ?z_zip ?z_sum ?z_max
  all_goals try refine' SH ?_ ?_ ?_ ?_
  all_goals try k_is