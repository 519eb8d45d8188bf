import PyProof.Rows.All
import Wide.All
import OpenK.AllK
import Wide.FinOn
import Lean
import PyProof.EqAt
import PyProof.EqKinds
import PyProof.TupleCall
import PyProof.NeKinds
import PySem.Challenge.RW_helmsum_k73_seen_first
set_option Elab.async false
set_option linter.all false
set_option maxRecDepth 100000
abbrev ND9:=@List.Nodup PySem.Str
abbrev aa:=@List.getD_eq_getElem?_getD
abbrev af:=@List.getElem?_eq_getElem
abbrev ag:=@List.length_map
abbrev ai:=@Nat.le_trans
abbrev ak:=@Nat.le_refl
abbrev ao:=@Nat.pow_le_pow_right
abbrev au:=@List.mem_append
abbrev av:=@List.length_append
abbrev ax:=@List.mem_of_getElem?
abbrev ay:=@List.mem_map
abbrev az:=@Nat.mul_le_mul_right
abbrev aB:=@List.getElem?_eq_some_iff
abbrev aD:=@List.getElem?_map
abbrev aE:=@List.mem_cons
abbrev aG:=@List.take_of_length_le
abbrev aI:=@Nat.mul_le_mul
abbrev aL:=@List.size_toArray
abbrev aN:=@Nat.le_of_lt
abbrev aO:=@List.getElem_mem
abbrev aQ:=@List.getElem_of_mem
abbrev aS:=@Rat.intCast_mul
abbrev aT:=@List.getElem?_eq_none
abbrev aU:=@PySem.boot_len
abbrev aV:=@List.not_mem_nil
abbrev aW:=@Rat.intCast_natCast
abbrev a9:=@Bool.false_ne_true
abbrev bf:=@List.length_singleton
abbrev bg:=@Nat.lt_of_le_of_lt
abbrev bu:=@Nat.zero_le
abbrev bw:=@Nat.one_le_two_pow
abbrev bx:=@List.length_cons
abbrev bC:=@Nat.pow_add
abbrev bD:=@Nat.mul_le_mul_left
abbrev bE:=@Nat.lt_of_lt_of_le
abbrev bK:=@List.map_append
abbrev bN:=@List.mem_cons_of_mem
abbrev bP:=@Nat.lt_or_ge
abbrev bR:=@List.length_range
abbrev bT:=@List.getElem?_append_right
abbrev bV:=@List.mem_append_right
abbrev b8:=@List.append_assoc
abbrev cf:=@Option.some.inj
abbrev cp:=@List.mem_cons_self
abbrev cu:=@List.mem_or_eq_of_mem_set
abbrev cv:=@Nat.mul_comm
abbrev cw:=@Nat.mul_pos
abbrev cx:=@Nat.mul_assoc
abbrev cz:=@List.mem_singleton
abbrev cA:=@Int.fdiv_eq_ediv_of_nonneg
abbrev cD:=@List.getElem?_append_left
abbrev cF:=@Rat.mul_comm
abbrev cG:=@Nat.ne_of_lt
abbrev cH:=@List.mem_of_mem_take
abbrev cK:=@List.nil_append
abbrev cM:=@PySem.F.plainAttrs_list
abbrev cN:=@List.length_take
abbrev cR:=@Int.natAbs_natCast
abbrev cS:=@Rat.intCast_neg
abbrev cT:=@List.getElem?_range
abbrev cV:=@Rat.mul_zero
abbrev c5:=@PySem.W.kia_one
abbrev de:=@Nat.succ_le_succ
abbrev df:=@List.length_zipWith
abbrev di:=@List.nodup_append
abbrev dj:=@List.length_replicate
abbrev dk:=@PySem.F.type_list_append
abbrev dm:=@PySem.F.slot_list_append
abbrev dn:=@Int.mul_assoc
abbrev dq:=@Rat.intCast_inj
abbrev dt:=@Nat.le_mul_of_pos_right
abbrev du:=@Bool.and_eq_true
abbrev dG:=@Nat.lt_irrefl
abbrev dI:=@Nat.lt_trichotomy
abbrev dJ:=@Nat.le_mul_of_pos_left
abbrev dP:=@List.nodup_cons
abbrev dQ:=@List.length_set
abbrev dU:=@List.drop_eq_getElem_cons
abbrev dZ:=@List.getElem?_zipWith
abbrev d4:=@Int.natAbs_dvd_natAbs
abbrev d6:=@Nat.lt_succ_self
abbrev d7:=@List.cons_append
abbrev d9:=@Int.gcd_dvd_left
abbrev eB:=@Nat.pow_lt_pow_right
abbrev eC:=@Int.natAbs_mul
abbrev eN:=@Int.gcd_dvd_right
abbrev eU:=@Int.mul_comm
abbrev fE:=@Nat.not_lt_zero
abbrev fJ:=@List.map_cons
abbrev gB:=@List.ext_getElem
abbrev gC:=@Int.eq_ofNat_of_zero_le
abbrev gD:=@Nat.mul_add
abbrev gE:=@Int.mul_pos
abbrev gH:=@Nat.pow_succ
abbrev gI:=@Int.emod_lt_of_pos
abbrev gJ:=@Bool.false_eq_true
abbrev ia:=@Nat.le_of_dvd
abbrev iK:=@List.flatten_cons
abbrev iQ:=@Int.natAbs_neg
abbrev jv:=@PySem.IsL.update
abbrev jw:=@Nat.succ_mul
abbrev jx:=@List.lookup_cons
abbrev jy:=@Int.zero_add
abbrev jz:=@Int.gcd_comm
abbrev jE:=@PySem.F.plain_extend_loop
abbrev jF:=@PySem.mem_of_lookup
abbrev jG:=@Nat.pow_le_pow_left
abbrev jH:=@List.replicate_succ
abbrev jT:=@List.getElem?_take_of_lt
abbrev j6:=@List.mem_filter
abbrev j7:=@Int.emod_nonneg
abbrev j8:=@Bool.eq_iff_iff
abbrev kE:=@Rat.one_mul
abbrev kF:=@Nat.exists_eq_add_of_le
abbrev kG:=@Int.natCast_dvd_natCast
abbrev kH:=@Int.dvd_mul_of_dvd_left
abbrev kY:=@Rat.zero_mul
abbrev kZ:=@Nat.sub_self
abbrev k6:=@Nat.add_comm
abbrev k9:=@List.nodup_nil
abbrev lh:=@List.map_map
abbrev lC:=@List.drop_of_length_le
abbrev mW:=@PySem.F.slot_zip_next
abbrev mX:=@List.getElem_map
abbrev mY:=@List.all_eq_true
abbrev oJ:=@Nat.le_succ
abbrev oK:=@List.mem_append_left
abbrev oM:=@List.getElem_zipWith
abbrev oP:=@List.range_succ
abbrev oQ:=@List.append_nil
abbrev p6:=@List.length_reverse
abbrev qh:=@Rat.add_zero
abbrev rC:=@Nat.eq_zero_or_pos
abbrev rD:=@List.mem_range
abbrev rE:=@Int.eq_of_mul_eq_mul_right
abbrev sJ:=@List.pairwise_iff_getElem
abbrev sL:=@Int.mul_neg_of_pos_of_neg
abbrev uG:=@Rat.mul_one
abbrev uH:=@Nat.pow_pos
abbrev uI:=@Nat.pow_mul
abbrev uJ:=@List.map_id
abbrev w5:=@Rat.intCast_eq_zero_iff
abbrev xf:=@Nat.le_add_right
abbrev xg:=@Nat.dvd_mul_left
abbrev xF:=@PySem.W.cellsFrom_some
abbrev zx:=@Rat.natCast_mul
abbrev zy:=@Rat.intCast_sub
abbrev zz:=@Rat.intCast_add
abbrev zA:=@List.length_zip
abbrev zD:=@Bool.beq_eq_decide_eq
abbrev AX:=@Nat.one_mul
abbrev AY:=@Nat.add_le_add_right
abbrev AZ:=@List.replicate_succ'
abbrev A0:=@List.forIn_nil
abbrev Cy:=@PySem.W.plainGet_of
abbrev Cz:=@List.map_congr_left
abbrev CA:=@List.filter_sublist
abbrev CB:=@List.filterMap_cons
abbrev DM:=@Int.natAbs_eq
abbrev DO:=@List.append_of_mem
abbrev DP:=@List.Nodup.sublist
abbrev FR:=@Rat.zero_add
abbrev FU:=@Nat.ne_of_gt
abbrev FV:=@List.ext_getElem?
abbrev FW:=@Int.dvd_refl
abbrev GY:=@Nat.min_le_right
abbrev GZ:=@List.nodup_range
abbrev Jv:=@Nat.add_mul
abbrev Jw:=@List.drop_append_of_le_length
abbrev Jx:=@Int.dvd_gcd
abbrev JC:=@Rat.mul_eq_zero
abbrev JD:=@Nat.le_antisymm
abbrev JE:=@List.of_mem_zip
abbrev JF:=@List.forIn_cons
abbrev JG:=@Int.gcd_pos_of_ne_zero_right
abbrev LX:=@List.length_eraseIdx_of_lt
abbrev Nu:=@PySem.F.entry_extend_loop
abbrev Nv:=@List.getElem?_zip_eq_some
abbrev Nw:=@Int.natAbs_ediv_of_nonneg
abbrev NA:=@Option.isSome_iff_exists
abbrev NB:=@List.mem_of_mem_eraseIdx
abbrev NC:=@List.all_cons
abbrev OS:=@PySem.F.args_zip_next_1
abbrev OT:=@List.getElem?_replicate
abbrev OU:=@List.filter_cons_of_pos
abbrev OV:=@List.filter_cons_of_neg
abbrev LR9:=List (List Rat)
abbrev FG9:=PySem.W.Frag
namespace L2
open PySem PySem.Spec PyProof.Rows
abbrev Key:=Sum Int Str
def Ly:Key->Value->Bool
 | .inl k,v=>Value.isInt k v
 | .inr x,v=>Value.isStrOf x v
def Pf (w:World):Key->Int
 | .inl k=>hashInt k
 | .inr x=>hashStr w x
theorem eJ:∀{k:Key} {v:Value},Ly k v=true->(∃i t,k=Sum.inl i/\v=Value.int i t)\/(∃x t,k=Sum.inr x/\v=Value.str x t)
 | .inl i,v,h=>by
  obtain ⟨t,e⟩:=Value.isInt_shape (k:=i) (v:=v) h;exact .inl ⟨i,t,rfl,e⟩
 | .inr x,v,h=>by
  obtain ⟨t,e⟩:=Value.isStrOf_shape (x:=x) (v:=v) h;exact .inr ⟨x,t,rfl,e⟩
theorem MV (a b:Int):decide ((Sum.inl a:Key)=Sum.inl b)=(a == b):=by
 by_cases e:a=b
 ·subst e;simp
 ·have h:¬(Sum.inl a:Key)=Sum.inl b:=λq=>e (Sum.inl.inj q)
  rw[decide_eq_false h];exact (beq_eq_false_iff_ne.mpr e).symm
theorem MS (a b:Str):decide ((Sum.inr a:Key)=Sum.inr b)=decide (a=b):=by
 by_cases e:a=b
 ·subst e;simp
 ·have h:¬(Sum.inr a:Key)=Sum.inr b:=λq=>e (Sum.inr.inj q)
  rw[decide_eq_false h,decide_eq_false e]
theorem MU (a:Int) (b:Str):decide ((Sum.inl a:Key)=Sum.inr b)=false:=decide_eq_false (λq=>nomatch q)
theorem MT (a:Str) (b:Int):decide ((Sum.inr a:Key)=Sum.inl b)=false:=decide_eq_false (λq=>nomatch q)
def Fi (prog:Program) (w:World):PySem.KeyKind prog w Key where
 is:=Ly
 hash:=Pf w
 inj:=λv a b ha hb=>by
  rcases eJ ha with ⟨i,t,rfl,rfl⟩ | ⟨x,t,rfl,rfl⟩
  ·rcases eJ hb with ⟨j,u,rfl,e⟩ | ⟨y,u,rfl,e⟩
   ·injection e with e1 _;rw[e1]
   ·exact nomatch e
  ·rcases eJ hb with ⟨j,u,rfl,e⟩ | ⟨y,u,rfl,e⟩
   ·exact nomatch e
   ·injection e with e1 _;rw[e1]
 byValue:=λk v h=>by
  rcases eJ h with ⟨i,t,rfl,rfl⟩ | ⟨x,t,rfl,rfl⟩ <;> rfl
 pyHash:=λhv h=>by
  rcases eJ hv with ⟨i,t,rfl,rfl⟩ | ⟨x,t,rfl,rfl⟩
  ·exact wpAny_pyHash_int h
  ·exact wpAny_pyHash_str h
 eqBool:=λhu hv h=>by
  rcases eJ hu with ⟨i,t,rfl,rfl⟩ | ⟨x,t,rfl,rfl⟩
  ·rcases eJ hv with ⟨j,u,rfl,rfl⟩ | ⟨y,u,rfl,rfl⟩
   ·rw[MV] at h;exact wpAny_eqBool_int h
   ·rw[MU] at h;exact SeqAt.EqAt.int_str i t y u _ _ _ _ h
  ·rcases eJ hv with ⟨j,u,rfl,rfl⟩ | ⟨y,u,rfl,rfl⟩
   ·rw[MT] at h;exact SeqAt.EqAt.str_int x t j u _ _ _ _ h
   ·rw[MS] at h;exact wpAny_eqBool_str h
 «strs»:=λk x t v h=>by
  rcases eJ h with ⟨i,u,rfl,e⟩ | ⟨y,u,rfl,e⟩
  ·exact nomatch e
  ·injection e with e1 _
   subst e1;cases v <;> rfl
inductive V where
  | non | bl (b : Bool) | int (i : Int) | str (x : Str) | byt (b : Array UInt8) | flt (b : UInt64) | ref (a : Addr) | ty (n : String)
  deriving DecidableEq

def RelV:V->Value->Prop
 | .non,u=>u=Value.none
 | .bl b,u=>u=Value.bool b
 | .int i,u=>∃t,u=Value.int i t
 | .str x,u=>∃t,u=Value.str x t
 | .byt b,u=>∃t,u=Value.bytes b t
 | .flt b,u=>∃t,u=Value.float b t
 | .ref a,u=>u=Value.ref a
 | .ty n,u=>u=Value.type n
abbrev cC:List V->List Value->Prop:=Paired RelV
theorem cC.length (r:cC xs us):xs.length=us.length:=Paired.length r
theorem cC.get:∀{xs:List V} {us:List Value} {i:Nat} {x:V},cC xs us->xs[i]?=some x->∃u,us[i]?=some u/\RelV x u
 | _,_,_,_,.nil,e=>by simp at e
 | _,_,0,_,.cons r _,e=>by simp at e;subst e;exact ⟨_,rfl,r⟩
 | _,_,i+1,x,.cons _ t,e=>by
  obtain ⟨u,h1,h2⟩:=cC.get (i:=i) (x:=x) t (by simpa using e);exact ⟨u,by simpa using h1,h2⟩
theorem cC.set {x:V} {u:Value} (r:RelV x u):∀{xs:List V} {us:List Value} (i:Nat),cC xs us->cC (xs.set i x) (us.set i u)
 | _,_,_,.nil=>.nil
 | _,_,0,.cons _ t=>.cons r t
 | _,_,i+1,.cons q t=>.cons q (cC.set r i t)
theorem cC.append:∀{xs ys:List V} {us ws:List Value},cC xs us->cC ys ws->cC (xs++ys) (us++ws)
 | _,_,_,_,.nil,s=>s
 | _,_,_,_,.cons r t,s=>.cons r (cC.append t s)
theorem cC.take:∀{xs:List V} {us:List Value} (n:Nat),cC xs us->cC (xs.take n) (us.take n)
 | _,_,0,_=>.nil
 | _,_,_+1,.nil=>.nil
 | _,_,n+1,.cons r t=>.cons r (cC.take n t)
theorem cC.drop:∀{xs:List V} {us:List Value} (n:Nat),cC xs us->cC (xs.drop n) (us.drop n)
 | _,_,0,r=>r
 | _,_,_+1,.nil=>.nil
 | _,_,n+1,.cons _ t=>cC.drop n t
def zT:Option V->Option Value->Prop
 | some v,some u=>RelV v u
 | none,none=>True
 | _,_=>False
def KV {κ:Type}:List (κ×V)->List (κ×Value)->Prop:=Paired λ(p:κ×V) (q:κ×Value)=>p.1=q.1/\RelV p.2 q.2
def kV:Key->V
 | .inl i=>.int i
 | .inr x=>.str x
inductive HO where
 | lst (xs:List V)
 | tup (xs:List V)
 | dK (kvs:List (Key×V)) | dT (kvs:List (List Key×V))
 | set (S:Int->Bool) (n:Nat)
 | ins (C dx:Addr) (fs:List (Str×V))
 | own (x:Addr)
 | xd (fs:List (Str×V))
 | met (f x:Addr)
 | rng (lo hi:Int)
 | frz (o:Obj) (u:HO)
 | tbl (ps:Array Value)
 | ext (φ:Heap->Prop)
abbrev Hp:=Addr->Option HO
def upd (H:Hp) (a:Addr) (o:HO):Hp:=λb=>if b=a then some o else H b
theorem aH:upd H a o a=some o:=by unfold upd;rw[if_pos rfl]
theorem br (h:b≠a):upd H a o b=H b:=by unfold upd;rw[if_neg h]
theorem eO {H:Hp} (h:H a=some o) (h':H b=none):a≠b:=by
 intro e;subst e;rw[h] at h';cases h'
section
variable (P:Program) (w:World)
def gZ (H:Hp) (h:Heap) (a:Addr):HO->Prop
 | .lst xs=>xs.length<=sizeLine/\∃(its:List Value) (n:Nat),cC xs its/\h.get? a=some { cls:=.type "list",data:=.seq its.toArray n }
 | .tup xs=>xs.length<=sizeLine/\∃its:List Value,cC xs its/\IsTup h a its.toArray
 | .dK kvs=>kvs.length<=sizeLine/\(a == sysModules)=false/\∃vs,KV kvs vs/\h.DictOf (Fi P w) a vs
 | .dT kvs=>kvs.length<=sizeLine/\(a == sysModules)=false/\∃xs:List (List Key×Addr×Value),
   Paired (λ(p:List Key×V) (q:List Key×Addr×Value)=>p.1=q.1/\H q.2.1=some (.tup (p.1.map kV))/\RelV p.2 q.2.2) kvs xs /\
   ∃o es ep,h.get? a=some o/\o.ExactDict/\o.data=.dict es ep/\es.toList=xs.map (entryOfKey (tupleKind (Fi P w)))/\(xs.map (·.1)).Nodup
 | .set S n=>h.SetOf (intKind P w) a S n
 | .ins C dx fs=>H dx=some (.own a)/\fs.length<=1000/\dx≠a/\h.get? a=some (PySem.W.instObj C dx) /\
   ∃mA,h.Ns1 dx mA/\(∀f,zT (fs.lookup f) (mA f))/\PySem.Within mA (fs.map (·.1))
 | .own _=>∃o,h.get? a=some o
 | .xd fs=>∃mA,h.Ns1 a mA/\∀f,zT (fs.lookup f) (mA f)
 | .rng lo hi=>∃t u v,h.get? a=some { cls:=.type "range",data:=.fields #[.int lo t,.int hi u,.int 1 v] }
 | .frz o u=>h.get? a=some o/\gZ H h a u
 | .tbl ps=>h.get? a=some { cls:=.none,data:=.fields ps }
 | .met f x=>h.get? a=some (PySem.W.methodObj (.ref f) (.ref x))
 | .ext φ=>φ h/\(∃o,h.get? a=some o)/\∀h1 h2:Heap,φ h1->(∀o,h1.get? a=some o->h2.get? a=some o)->φ h2
def xE (H:Hp) (h:Heap):Prop:=∀a o,H a=some o->gZ P w H h a o
end
section
variable {P:Program} {w:World} {H H':Hp} {h h':Heap} {a:Addr} {o:HO}
theorem gZ.lt (x:gZ P w H h a o):a < h.objs.size:=by
 cases o with
 | lst xs=>obtain ⟨_,_,_,_,e⟩:=x;exact Heap.lt_size e
 | tup xs=>obtain ⟨_,_,_,p⟩:=x;exact p.lt
 | dK kvs=>obtain ⟨_,_,_,_,o,_,_,e,_⟩:=x;exact Heap.lt_size e
 | dT kvs=>obtain ⟨_,_,_,_,o,_,_,e,_⟩:=x;exact Heap.lt_size e
 | set S n=>obtain ⟨o,_,_,_,e,_⟩:=x;exact Heap.lt_size e
 | ins C dx fs=>obtain ⟨_,_,_,e,_⟩:=x;exact Heap.lt_size e
 | own y=>obtain ⟨_,e⟩:=x;exact Heap.lt_size e
 | xd fs=>obtain ⟨_,⟨_,_,_,e,_⟩,_⟩:=x;exact Heap.lt_size e
 | rng lo hi=>obtain ⟨_,_,_,e⟩:=x;exact Heap.lt_size e
 | frz ob u=>obtain ⟨e,_⟩:=x;exact Heap.lt_size e
 | tbl ps=>exact Heap.lt_size (show h.get? a=some _ from x)
 | met f y=>exact Heap.lt_size (show h.get? a=some _ from x)
 | ext φ=>obtain ⟨_,⟨_,e⟩,_⟩:=x;exact Heap.lt_size e
theorem Paired.mapP {α β:Type} {F G:α->β->Prop}:∀{l₁:List α} {l₂:List β},Paired F l₁ l₂->(∀a b,F a b->G a b)->Paired G l₁ l₂
 | _,_,.nil,_=>.nil
 | _,_,.cons r t,f=>.cons (f _ _ r) (Paired.mapP t f)
theorem Paired.imp' {F G:α->β->Prop} (f:∀a b,F a b->G a b) {l₁:List α} {l₂:List β} (r:Paired F l₁ l₂):Paired G l₁ l₂:=Paired.mapP r f
theorem gZ.stay (x:gZ P w H h a o) (k:∀b u,(b=a\/H b=some (.own a))->h.get? b=some u->h'.get? b=some u)
  (ho:∀b,H b=some (.own a)->H' b=some (.own a)) (ht:∀b xs,H b=some (.tup xs)->H' b=some (.tup xs)):gZ P w H' h' a o:=by
 induction o with
 | lst xs=>obtain ⟨z,its,n,r,e⟩:=x;exact ⟨z,its,n,r,k _ _ (.inl rfl) e⟩
 | tup xs=>obtain ⟨z,its,r,ob,e,c⟩:=x;exact ⟨z,its,r,ob,k _ _ (.inl rfl) e,c⟩
 | dK kvs=>obtain ⟨z,y,vs,r,ob,es,ep,e,c⟩:=x;exact ⟨z,y,vs,r,ob,es,ep,k _ _ (.inl rfl) e,c⟩
 | dT kvs =>
  obtain ⟨z,y,xs,r,ob,es,ep,e,c⟩:=x;exact ⟨z,y,xs,Paired.mapP r λp q z=>⟨z.1,ht _ _ z.2.1,z.2.2⟩,ob,es,ep,k _ _ (.inl rfl) e,c⟩
 | set S n=>obtain ⟨ob,es,ep,t,e,c⟩:=x;exact ⟨ob,es,ep,t,k _ _ (.inl rfl) e,c⟩
 | ins C dx fs =>
  obtain ⟨d,z,ne,e,mA,⟨od,es,ep,e2,c⟩,r⟩:=x;exact ⟨ho _ d,z,ne,k _ _ (.inl rfl) e,mA,⟨od,es,ep,k _ _ (.inr d) e2,c⟩,r⟩
 | own y=>obtain ⟨ob,e⟩:=x;exact ⟨ob,k _ _ (.inl rfl) e⟩
 | xd fs=>obtain ⟨mA,⟨od,es,ep,e,c⟩,r⟩:=x;exact ⟨mA,⟨od,es,ep,k _ _ (.inl rfl) e,c⟩,r⟩
 | rng lo hi=>obtain ⟨t,u,v,e⟩:=x;exact ⟨t,u,v,k _ _ (.inl rfl) e⟩
 | frz ob u ih=>obtain ⟨e,q⟩:=x;exact ⟨k _ _ (.inl rfl) e,ih q⟩
 | tbl ps =>
  have e:h.get? a=some { cls:=.none,data:=.fields ps }:=x;show h'.get? a=some { cls:=.none,data:=.fields ps }
  exact k a _ (.inl rfl) e
 | met f y =>
  have e:h.get? a=some (PySem.W.methodObj (.ref f) (.ref y)):=x;show h'.get? a=some (PySem.W.methodObj (.ref f) (.ref y))
  exact k a _ (.inl rfl) e
 | ext φ=>obtain ⟨p,⟨o,e⟩,st⟩:=x;exact ⟨st _ _ p λo q=>k _ _ (.inl rfl) q,⟨o,k _ _ (.inl rfl) e⟩,st⟩
theorem xE.lt (x:xE P w H h) (e:H a=some o):a < h.objs.size:=(x a o e).lt
theorem xE.fresh (x:xE P w H h) (e:h.objs.size<=a):H a=none:=by
 cases q:H a with
 | none=>rfl
 | some u=>exact absurd (bE (x.lt q) e) (dG _)
theorem xE.kept (x:xE P w H h) (k:∀b u,h.get? b=some u->h'.get? b=some u):xE P w H h':=λa o e =>
 (x a o e).stay (λb u _ q=>k b u q) (λ_ q=>q) λ_ _ q=>q
theorem xE.laid (x:xE P w H h) (k:∀b u,h.get? b=some u->h'.get? b=some u) (hp:h.objs.size<=a) (new:gZ P w (upd H a o) h' a o):xE P w (upd H a o) h':=λb u e=>by
 have hn:=x.fresh hp;by_cases hb:b=a
 ·subst hb;rw[aH] at e;cases e;exact new
 ·rw[br hb] at e;exact (x b u e).stay (λc v _ q=>k c v q) (λc q=>by rw[br (eO q hn)];exact q) λc xs q=>by rw[br (eO q hn)];exact q
end
def Rd (H:Hp) (a:Addr) (u:HO):Prop:=H a=some u\/∃o,H a=some (.frz o u)
theorem Rd.ok (r:Rd H a u) (x:xE P w H h):gZ P w H h a u:=by
 rcases r with r | ⟨o,r⟩
 ·exact x a u r
 ·obtain ⟨_,q⟩:=x a _ r;exact q
def O2:Option HO->Prop
 | some (.lst _)=>True
 | some (.dK _)=>True
 | some (.dT _)=>True
 | some (.set _ _)=>True
 | some (.ins _ _ _)=>True
 | some (.ext _)=>True
 | _=>False
section
variable {P:Program} {w:World} {H:Hp} {h h':Heap} {x e:Addr} {o':HO}
theorem xE.write (ok:xE P w H h) (mu:O2 (H x)) (he:e=x\/H e=some (.own x)) (k:∀b u,b≠e->h.get? b=some u->h'.get? b=some u) (heo:∃u,h'.get? e=some u)
  (new:gZ P w (upd H x o') h' x o'):xE P w (upd H x o') h':=λb u q=>by
 have nown:∀c y,H c=some (.own y)->c≠x:=λc y r z=>by subst z;rw[r] at mu;exact mu
 have ntup:∀c xs,H c=some (.tup xs)->c≠x:=λc xs r z=>by subst z;rw[r] at mu;exact mu
 by_cases hb:b=x
 ·subst hb;rw[aH] at q;cases q;exact new
 ·rw[br hb] at q;by_cases hbe:b=e
  ·have q':H b=some (.own x):=by
    rcases he with z | z
    ·exact absurd (hbe.trans z) hb
    ·rw[hbe];exact z
   rw[q] at q';cases q';obtain ⟨v,hv⟩:=heo;exact ⟨v,by rw[hbe];exact hv⟩
  ·refine (ok b u q).stay (λc v hc r=>k c v ?_ r) (λc r=>by rw[br (nown c b r)];exact r) λc xs r=>by rw[br (ntup c xs r)];exact r
   rcases hc with rfl | hc
   ·exact hbe
   ·rintro rfl;rcases he with z | z
    ·exact nown c b hc z
    ·rw[hc] at z;cases z;exact hb rfl
end
structure Un (fs ex:List Addr) (H H':Hp) (h h':Heap):Prop where
 keep:∀b o,h.get? b=some o->H b=none->b∉fs->b∉ex->h'.get? b=some o
 slot:∀b o,h.get? b=some o->H b=none->b∈fs->b∉ex->∃sl,h'.get? b=some { o with slots:=sl }
 free:∀b o,h.get? b=some o->H b=none->b∉ex->H' b=none
 there:∀b o,h.get? b=some o->b∉ex->∃o',h'.get? b=some o'
 tups:∀b xs,H b=some (.tup xs)->H' b=some (.tup xs)
 frzs:∀b o u,H b=some (.frz o u)->H' b=some (.frz o u)
 tbls:∀b ps,H b=some (.tbl ps)->∃more,H' b=some (.tbl (ps++more))
section
variable {fs fs' ex ex':List Addr} {H H1 H2:Hp} {h h1 h2 h':Heap} {a x e:Addr} {o:HO}
theorem Un.any (u:Un fs ex H H1 h h1) (q:h.get? b=some ob) (n:H b=none) (hx:b∉ex):∃sl,h1.get? b=some { ob with slots:=sl }:=by
 by_cases hb:b∈fs
 ·exact u.slot b ob q n hb hx
 ·exact ⟨ob.slots,u.keep b ob q n hb hx⟩
theorem Un.kept (k:∀b u,h.get? b=some u->h'.get? b=some u):Un fs ex H H h h' :=
 ⟨λb ob q _ _ _=>k b ob q,λb ob q _ _ _=>⟨ob.slots,k b ob q⟩,λ_ _ _ n _=>n,λb ob q _=>⟨ob,k b ob q⟩,λ_ _ q=>q,λ_ _ _ q=>q,λ_ ps q=>⟨#[],by rw[q];simp⟩⟩
theorem Un.refl:Un fs ex H H h h:=Un.kept λ_ _ q=>q
theorem Un.laid (k:∀b u,h.get? b=some u->h'.get? b=some u) (hp:h.objs.size<=a) (hn:H a=none):Un fs ex H (upd H a o) h h' where
 keep:=λb u q _ _ _=>k b u q
 slot:=λb u q _ _ _=>⟨u.slots,k b u q⟩
 free:=λb u q n _=>by rw[br (cG (bE (Heap.lt_size q) hp))];exact n
 there:=λb u q _=>⟨u,k b u q⟩
 tups:=λb xs q=>by rw[br (eO q hn)];exact q
 frzs:=λb u xs q=>by rw[br (eO q hn)];exact q
 tbls:=λb ps q=>⟨#[],by rw[br (eO q hn),q];simp⟩
theorem Un.write (mu:O2 (H x)) (he:e=x\/H e=some (.own x)) (k:∀b u,b≠e->h.get? b=some u->h'.get? b=some u) (heo:∃u,h'.get? e=some u):Un fs ex H (upd H x o) h h':=by
 have hx:∀b,H b=none->b≠x:=λb n z=>by subst z;rw[n] at mu;exact mu
 have hb:∀b,H b=none->b≠e:=λb n z=>by
  subst z;rcases he with r | r
  ·exact hx b n r
  ·rw[n] at r;cases r
 have hm:∀b u,H b=some u->¬O2 (some u)->b≠x:=λb u q nm z=>by subst z;rw[q] at mu;exact nm mu
 refine ⟨λb u q n _ _=>k b u (hb b n) q,λb u q n _ _=>⟨u.slots,k b u (hb b n) q⟩,λb u q n _=>by rw[br (hx b n)];exact n,λb u q _=>?_,
  λb xs q=>by rw[br (hm b _ q λz=>z)];exact q,λb u xs q=>by rw[br (hm b _ q λz=>z)];exact q,λb ps q=>⟨#[],by rw[br (hm b _ q λz=>z),q];simp⟩⟩
 by_cases hbe:b=e
 ·subst hbe;exact heo
 ·exact ⟨u,k b u hbe q⟩
end
def OW (h:Heap) (H:Hp):List Addr:=(List.range h.objs.size).filter λa=>(H a).isSome
def BZ (h:Heap) (H:Hp):Heap:=PySem.W.hideAll h (OW h H)
theorem GC (h:Heap) (H:Hp):(BZ h H).objs.size=h.objs.size:=PySem.W.hideAll_size _ _
theorem IU (e:h.get? b=some o) (n:H b=none):(BZ h H).get? b=some o :=
 PySem.W.hideAll_get _ e λhm=>by
  have q:(H b).isSome=true:=(j6.mp hm).2;rw[n] at q;simp at q
theorem KD (e:(BZ h H).get? b=some o):h.get? b=some o/\H b=none:=by
 have e':h.get? b=some o:=PySem.W.of_hideAll (OW h H) e;refine ⟨e',?_⟩;cases q:H b with
 | none=>rfl
 | some x =>
  have hm:b∈OW h H:=j6.mpr ⟨rD.mpr (Heap.lt_size e'),by simp [q]⟩;have z:(BZ h H).get? b=none:=PySem.W.hideAll_none (OW h H) hm;rw[z] at e;cases e
structure Mod (K:FG9) (mg:Str->Option Value) (base:Heap):Prop where
 kin:K.In base
 glob:base.Ns mainGlobals mg
 blt:∃mb,base.Ns builtinsNs mb/\∀x:Str,x≠"__name__"->mb x=bootBuiltins x
 nolimit:base.NoLimit
structure Cx where
 prog:Program
 w:World
 K:FG9
 mg:Str->Option Value
 base:Heap
 A:Around
 N:List Str
 s₀:Shared
 H₀:Hp
 env:Env
 outer:List Env
 stack:List Env
 ex:List Addr
 fn:Str->Bool
 calm:Bool
 pn:List (Addr×Obj)
 xe:Value->Shared->Prop
def GV (l:List Env):List Addr:=l.filterMap (·.frame)
abbrev Cx.fs (X:Cx):List Addr:=GV X.outer
def Pl (sc:Scope) (x:Str):Prop:=sc.names.lookup x=some .local\/sc.names.lookup x=some .cell\/sc.names.lookup x=some .free
def Loc (sc:Scope) (x:Str):Prop:=sc.names.lookup x=some .local\/sc.names.lookup x=some .cell
def Look (env:Env) (h:Heap) (m:Str->Option Value) (x:Str) (u:Value):Prop :=
 (env.kindOf x=some .local/\m x=some u)\/((env.kindOf x=some .cell\/env.kindOf x=some .free)/\∃c,env.cells.lookup x=some c/\h.IsCell c (some u))
structure Cx.Ok (X:Cx):Prop where
 mod:Mod X.K X.mg X.base
 kind:X.env.scope.kind=.function
 glob:X.env.globals=mainGlobals
 blt:X.env.builtins=builtinsNs
 above:X.s₀.heap.objs.size<=X.env.locals
 inj:∀x y c,X.env.cells.lookup x=some c->X.env.cells.lookup y=some c->x=y
 has:∀x,(X.env.kindOf x=some .cell\/X.env.kindOf x=some .free)->∃c,X.env.cells.lookup x=some c
 cab:∀x c,X.fn x=true->X.env.cells.lookup x=some c->X.s₀.heap.objs.size<=c
 hd:X.calm=true->X.A.handled=none
 frames:X.A.frames=some X.stack
 stk:X.stack=X.outer\/(X.stack=X.env :: X.outer/\X.env.frame=some X.env.locals)
 exf:∀b∈X.ex,b≠X.env.locals/\∀x c,X.env.cells.lookup x=some c->c≠b
 bs:∀b o,X.base.get? b=some o->X.s₀.heap.get? b=some o/\X.H₀ b=none
 bsz:X.base.objs.size<=X.s₀.heap.objs.size
 noex:∀b o,X.base.get? b=some o->b∉X.ex
 exfs:∀b∈X.ex,b∉X.fs
 funs:X.s₀.heap.FunFrames X.base X.outer
 frf:∀b∈X.fs,X.H₀ b=none
structure Inv (X:Cx) (pins:List (Addr×Obj)) (σ:List (Option V)) (H:Hp) (s:Shared):Prop where
 ok:X.Ok
 os:s.os=X.s₀.os
 bare:AllBare s.gens
 base:Un X.fs X.ex X.H₀ H X.s₀.heap s.heap
 loc:∃m,s.heap.Ns X.env.locals m/\∀(i:Nat) (x:Str) (v:V),X.N[i]?=some x->σ[i]?=some (some v)->Pl X.env.scope x->∃u,RelV v u/\Look X.env s.heap m x u
 cell:∀x c,X.env.cells.lookup x=some c->∃v,s.heap.IsCell c v
 free:H X.env.locals=none
 freeC:∀x c,X.env.cells.lookup x=some c->H c=none
 pin:∀p∈X.pn++pins,s.heap.get? p.1=some p.2/\H p.1=none/\p.1≠X.env.locals/\p.1∉X.fs/\∀v,p.2.data≠.cell v
 hok:xE X.prog X.w H s.heap
 len:σ.length=X.N.length
section
variable {X:Cx} {pins:List (Addr×Obj)} {σ:List (Option V)} {H H':Hp} {s:Shared} {h':Heap}
theorem Cx.Ok.nofr (ok:X.Ok) (e:X.base.get? b=some o):b∉X.fs:=λhb=>by
 have:=(ok.funs.mem hb).1;rw[e] at this;cases this
theorem Inv.bs (I:Inv X pins σ H s):∀b o,X.base.get? b=some o->s.heap.get? b=some o/\H b=none:=λb o e =>
 ⟨I.base.keep b o (I.ok.bs b o e).1 (I.ok.bs b o e).2 (I.ok.nofr e) (I.ok.noex b o e),I.base.free b o (I.ok.bs b o e).1 (I.ok.bs b o e).2 (I.ok.noex b o e)⟩
theorem Inv.bk (I:Inv X pins σ H s):∀b o,X.base.get? b=some o->s.heap.get? b=some o:=λb o e=>(I.bs b o e).1
theorem Inv.mod (I:Inv X pins σ H s):Mod X.K X.mg X.base:=I.ok.mod
theorem Inv.kIn (I:Inv X pins σ H s):X.K.In s.heap:=I.ok.mod.kin.keeps I.bk
theorem Inv.lt (I:Inv X pins σ H s):X.env.locals < s.heap.objs.size:=let ⟨_,hn,_⟩:=I.loc;hn.lt
theorem Inv.sz (I:Inv X pins σ H s):X.s₀.heap.objs.size<=s.heap.objs.size:=ai I.ok.above (aN I.lt)
theorem Inv.nofs (I:Inv X pins σ H s) {a:Addr} (h:s.heap.objs.size<=a):a∉X.fs:=λhb=>by
 obtain ⟨_,o,ho,_⟩:=I.ok.funs.mem hb;exact absurd (bE (Heap.lt_size ho) (ai I.sz h)) (dG _)
theorem Inv.cne (I:Inv X pins σ H s):∀x c,X.env.cells.lookup x=some c->c≠X.env.locals:=λx c e z=>by
 obtain ⟨v,o,ho,hd⟩:=I.cell x c e;obtain ⟨m,⟨o',es,ep,ho',hd',_⟩,_⟩:=I.loc;rw[z,ho'] at ho;cases ho;rw[hd'] at hd;cases hd
theorem Inv.funs (I:Inv X pins σ H s):s.heap.FunFrames X.base X.outer:=by
 have all:∀(l:List Env),(∀b∈GV l,b∈X.fs)->X.s₀.heap.FunFrames X.base l->s.heap.FunFrames X.base l:=by
  intro l
  induction l with
  | nil=>intro _ _;trivial
  | cons env r ih =>
   intro hs hl;obtain ⟨hk,⟨L,o,hf,hn,ho,hd⟩,hr⟩:=hl;have hL:L∈X.fs:=hs L (by unfold GV;rw[CB,hf];exact cp);obtain ⟨sl,e⟩:=I.base.slot L o ho (I.ok.frf L hL) hL λz=>I.ok.exfs L z hL
   exact ⟨hk,⟨L,_,hf,hn,e,hd⟩,ih (λb hb=>hs b (by unfold GV;rw[CB,hf];exact bN _ hb)) hr⟩
 exact all X.outer (λ_ hb=>hb) I.ok.funs
theorem Inv.stack (I:Inv X pins σ H s):s.heap.FunFrames X.base X.stack:=by
 rcases I.ok.stk with e | ⟨e,hf⟩
 ·rw[e];exact I.funs
 ·rw[e];obtain ⟨m,hn,_⟩:=I.loc;refine .cons (by rw[I.ok.kind];decide) hf hn ?_ I.funs;exact Heap.get?_none_of_le (ai I.ok.bsz I.ok.above)
theorem Inv.stkSub (I:Inv X pins σ H s):∀b∈GV X.stack,b∈X.env.locals :: X.fs:=λb hb=>by
 rcases I.ok.stk with e | ⟨e,hf⟩
 ·rw[e] at hb;exact bN _ hb
 ·rw[e] at hb;unfold GV at hb;rw[CB,hf] at hb;exact hb
theorem Inv.stkFree (I:Inv X pins σ H s):∀b∈GV X.stack,H b=none:=λb hb=>by
 rcases aE.mp (I.stkSub b hb) with e | hb
 ·rw[e];exact I.free
 ·obtain ⟨_,o,ho,_⟩:=I.ok.funs.mem hb;exact I.base.free b o ho (I.ok.frf b hb) λz=>I.ok.exfs b z hb
theorem Inv.step {ch:List Addr} (I:Inv X pins σ H s)
  (hch:∀b∈ch,(b∈X.ex\/X.s₀.heap.objs.size<=b)/\b≠X.env.locals/\(∀x c,X.env.cells.lookup x=some c->c≠b)/\∀p∈X.pn++pins,p.1≠b)
  (keep:∀b o,b≠X.env.locals->b∉X.fs->b∉ch->s.heap.get? b=some o->H b=none->h'.get? b=some o)
  (slot:∀b o,b≠X.env.locals->b∈X.fs->b∉ch->s.heap.get? b=some o->H b=none->∃sl,h'.get? b=some { o with slots:=sl }) (free:∀b o,b∉ch->s.heap.get? b=some o->H b=none->H' b=none)
  (there:∀b o,b∉ch->s.heap.get? b=some o->∃o',h'.get? b=some o')
  (tups:∀b xs,H b=some (.tup xs)->H' b=some (.tup xs)) (frzs:∀b o u,H b=some (.frz o u)->H' b=some (.frz o u)) (tbls:∀b ps,H b=some (.tbl ps)->∃more,H' b=some (.tbl (ps++more)))
  (ns:∀m,s.heap.Ns X.env.locals m->h'.Ns X.env.locals m) (hok:xE X.prog X.w H' h') (hg:AllBare g') :
  Inv X pins σ H' { s with heap:=h',gens:=g',drawn:=d',toks:=t' }:=by
 have neL:∀b o,X.s₀.heap.get? b=some o->b≠X.env.locals:=λb o e=>cG (bE (Heap.lt_size e) I.ok.above)
 have neC:∀b o,X.s₀.heap.get? b=some o->b∉X.ex->b∉ch:=λb o e hx hb=>by
  rcases (hch b hb).1 with z | z
  ·exact hx z
  ·exact absurd (bE (Heap.lt_size e) z) (dG _)
 have cellK:∀x c,X.env.cells.lookup x=some c->∀v,s.heap.IsCell c v->h'.IsCell c v:=λx c e v ⟨o,ho,hd⟩=>by
  have nch:c∉ch:=λz=>(hch c z).2.2.1 x c e rfl
  by_cases hc:c∈X.fs
  ·obtain ⟨sl,q⟩:=slot c o (I.cne x c e) hc nch ho (I.freeC x c e);exact ⟨_,q,hd⟩
  ·exact ⟨o,keep c o (I.cne x c e) hc nch ho (I.freeC x c e),hd⟩
 refine ⟨I.ok,I.os,hg,⟨λb o e n hb hx=>?_,λb o e n hb hx=>?_,λb o e n hx=>?_,λb o e hx=>?_,λb xs e=>tups b xs (I.base.tups b xs e),λb o xs e=>frzs b o xs (I.base.frzs b o xs e),λb ps e=>?_⟩,?_,λx c e=>?_,?_,λx c e=>?_,λp hp=>?_,hok,I.len⟩
 ·exact keep b o (neL b o e) hb (neC b o e hx) (I.base.keep b o e n hb hx) (I.base.free b o e n hx)
 ·obtain ⟨sl,e1⟩:=I.base.slot b o e n hb hx;obtain ⟨sl',e2⟩:=slot b _ (neL b o e) hb (neC b o e hx) e1 (I.base.free b o e n hx);exact ⟨sl',e2⟩
 ·obtain ⟨o',e1⟩:=I.base.there b o e hx;exact free b o' (neC b o e hx) e1 (I.base.free b o e n hx)
 ·obtain ⟨o',e1⟩:=I.base.there b o e hx;exact there b o' (neC b o e hx) e1
 ·obtain ⟨m1,e1⟩:=I.base.tbls b ps e;obtain ⟨m2,e2⟩:=tbls b _ e1;exact ⟨m1++m2,by rw[e2,Array.append_assoc]⟩
 ·obtain ⟨m,hn,hl⟩:=I.loc;refine ⟨m,ns m hn,λi x v e1 e2 e3=>?_⟩;obtain ⟨u,r,l⟩:=hl i x v e1 e2 e3;refine ⟨u,r,?_⟩;rcases l with l | ⟨k,c,e,z⟩
  ·exact .inl l
  ·exact .inr ⟨k,c,e,cellK x c e _ z⟩
 ·obtain ⟨v,z⟩:=I.cell x c e;exact ⟨v,cellK x c e v z⟩
 ·obtain ⟨m,⟨o,_,_,ho,_⟩,_⟩:=I.loc;exact free _ o (λz=>(hch _ z).2.1 rfl) ho I.free
 ·obtain ⟨v,o,ho,hd⟩:=I.cell x c e;exact free c o (λz=>(hch c z).2.2.1 x c e rfl) ho (I.freeC x c e)
 ·obtain ⟨e,n,ne,nf,d⟩:=I.pin p hp;have nch:p.1∉ch:=λz=>(hch p.1 z).2.2.2 p hp rfl
  exact ⟨keep p.1 p.2 ne nf nch e n,free p.1 p.2 nch e n,ne,nf,d⟩
theorem Inv.un (I:Inv X pins σ H s) (u:Un X.fs [] H H' s.heap h') (hok:xE X.prog X.w H' h'):Inv X pins σ H' { s with heap:=h',toks:=t' }:=by
 obtain ⟨m,⟨o,es,ep,ho,r⟩,_⟩:=id I.loc;obtain ⟨sl,hL⟩:=u.any ho I.free (by simp)
 exact I.step (g':=s.gens) (d':=s.drawn) (ch:=[]) (λ_ z=>nomatch z) (λb o _ hb _ e n=>u.keep b o e n hb (by simp)) (λb o _ hb _ e n=>u.slot b o e n hb (by simp)) (λb o _ e n=>u.free b o e n (by simp)) (λb o _ e=>u.there b o e (by simp)) u.tups u.frzs u.tbls (λm' hm=>by
  obtain ⟨o',es',ep',ho',r'⟩:=hm;rw[ho] at ho';cases ho';exact ⟨_,es',ep',hL,r'⟩) hok I.bare
theorem Inv.call (I:Inv X pins σ H s) (u:Un (GV X.stack) ch H H' s.heap h') (hok:xE X.prog X.w H' h') (hg:AllBare g')
  (hch:∀b∈ch,(b∈X.ex\/X.s₀.heap.objs.size<=b)/\b≠X.env.locals/\(∀x c,X.env.cells.lookup x=some c->c≠b)/\∀p∈X.pn++pins,p.1≠b) :
  Inv X pins σ H' { s with heap:=h',gens:=g',drawn:=d',toks:=t' }:=by
 obtain ⟨m,⟨o,es,ep,ho,r⟩,_⟩:=id I.loc;obtain ⟨sl,hL⟩:=u.any ho I.free λz=>(hch _ z).2.1 rfl
 exact I.step (ch:=ch) hch (λb o hL hb hc e n=>u.keep b o e n (λz=>(aE.mp (I.stkSub b z)).elim hL hb) hc) (λb o _ _ hc e n=>u.any e n hc) (λb o hc e n=>u.free b o e n hc) (λb o hc e=>u.there b o e hc) u.tups u.frzs u.tbls (λm' hm=>by
  obtain ⟨o',es',ep',ho',r'⟩:=hm;rw[ho] at ho';cases ho';exact ⟨_,es',ep',hL,r'⟩) hok hg
theorem Inv.turned (I:Inv X pins σ H s) (k:∀b o,b≠it->s.heap.get? b=some o->h'.get? b=some o) (hn:H it=none) (hL:it≠X.env.locals)
  (h1:it∈X.ex\/X.s₀.heap.objs.size<=it) (h2:∀x c,X.env.cells.lookup x=some c->c≠it) (h3:∀p∈X.pn++pins,p.1≠it):Inv X pins σ H { s with heap:=h',toks:=t' }:=by
 have nit:∀b u,H b=some u->b≠it:=λb u e z=>by rw[z,hn] at e;cases e
 refine I.step (g':=s.gens) (d':=s.drawn) (ch:=[it]) (λb hb=>?_) (λb o _ _ hc e _=>k b o (λz=>hc (by simp [z])) e) (λb o _ _ hc e _=>⟨o.slots,k b o (λz=>hc (by simp [z])) e⟩) (λ_ _ _ _ n=>n)
  (λb o hc e=>⟨o,k b o (λz=>hc (by simp [z])) e⟩) (λ_ _ e=>e) (λ_ _ _ e=>e) (λb ps e=>⟨#[],by rw[e];simp⟩) (λm hm=>?_) (λb u e=>?_) I.bare
 ·have e:b=it:=by simpa using hb
  subst e;exact ⟨h1,hL,h2,h3⟩
 ·obtain ⟨o,es,ep,ho,r⟩:=hm;exact ⟨o,es,ep,k _ o (Ne.symm hL) ho,r⟩
 ·refine (I.hok b u e).stay (λc v hc q=>k c v ?_ q) (λ_ q=>q) λ_ _ q=>q
  rcases hc with z | z
  ·rw[z];exact nit b u e
  ·exact nit c _ z
theorem Inv.tok (I:Inv X pins σ H s) (t:Nat):Inv X pins σ H { s with toks:=t }:=I.un (h':=s.heap) (t':=t) Un.refl I.hok
theorem Inv.kept (I:Inv X pins σ H s) (k:∀b u,s.heap.get? b=some u->h'.get? b=some u):Inv X pins σ H { s with heap:=h',toks:=t' }:=I.un (Un.kept k) (I.hok.kept k)
theorem Inv.laid {a:Addr} (I:Inv X pins σ H s) (k:∀b u,s.heap.get? b=some u->h'.get? b=some u) (hp:s.heap.objs.size<=a) (new:gZ X.prog X.w (upd H a o) h' a o) :
  Inv X pins σ (upd H a o) { s with heap:=h',toks:=t' }:=I.un (Un.laid k hp (I.hok.fresh hp)) (I.hok.laid k hp new)
theorem Inv.write (I:Inv X pins σ H s) (mu:O2 (H x)) (he:e=x\/H e=some (.own x)) (k:∀b u,b≠e->s.heap.get? b=some u->h'.get? b=some u) (heo:∃u,h'.get? e=some u)
  (new:gZ X.prog X.w (upd H x o) h' x o):Inv X pins σ (upd H x o) { s with heap:=h',toks:=t' }:=I.un (Un.write mu he k heo) (I.hok.write mu he k heo new)
theorem Inv.pins_of (I:Inv X pins σ H s) (h:∀p∈pins',s.heap.get? p.1=some p.2/\H p.1=none/\p.1≠X.env.locals/\p.1∉X.fs/\∀v,p.2.data≠.cell v):Inv X pins' σ H s :=
 ⟨I.ok,I.os,I.bare,I.base,I.loc,I.cell,I.free,I.freeC,λp hp=>(au.mp hp).elim (λz=>I.pin p (oK _ z)) (h p),I.hok,I.len⟩
theorem Dj {N:List Str} (hN:N.Nodup) {i j:Nat} (a:N[i]?=some x) (b:N[j]?=some x):i=j:=by
 obtain ⟨h1,e1⟩:=aB.mp a;obtain ⟨h2,e2⟩:=aB.mp b;exact (List.getElem_inj hN).mp (e1.trans e2.symm)
theorem zW {M:Model} {A:Around} {E:Value->Shared->Prop} {i:Nat} {x:Str} {v:V} {u:Value} {Q:Unit->Shared->Prop} (I:Inv X pins σ H s) (hN:X.N.Nodup) (hi:X.N[i]?=some x) (hx:Loc X.env.scope x) (r:RelV v u)
  (h:∀s',Inv X pins (σ.set i (some v)) H s'->(∃a,Heap.SameBut a s.heap s'.heap/\(a=X.env.locals\/X.env.cells.lookup x=some a))->Q () s') (hf:X.fn x=true\/X.env.scope.names.lookup x=some .local:=by first | exact .inl rfl | exact .inr rfl | assumption):wpAny M A (storeName X.env x u) Q E s:=by
 obtain ⟨m,hn,hl⟩:=id I.loc;have hcls:(X.env.scope.kind == .class || (X.env.scope.kind == .module && X.env.locals != X.env.globals))=false:=by rw[I.ok.kind];rfl
 have hiσ:i < σ.length:=by rw[I.len];exact (aB.mp hi).1
 have cne:=I.cne
 have tracked:∀{a:Addr} {h':Heap},(∃o,s.heap.get? a=some o/\H a=none)->Heap.SameBut a s.heap h'->xE X.prog X.w H h':=λ{a h'} ha hs b ob e=>by
  obtain ⟨_,_,hfree⟩:=ha;refine (I.hok b ob e).stay (λc w' hc q=>(hs.2 c ?_).trans q) (λ_ q=>q) λ_ _ q=>q
  rintro rfl;rcases hc with rfl | hc
  ·rw[hfree] at e;cases e
  ·rw[hfree] at hc;cases hc
 rcases hx with hk | hk
 ·refine wpAny_storeName_local hk hn (λh' hn' hs=>?_) hcls;obtain ⟨oL,_,_,hoL,_⟩:=id hn;refine h _ ⟨I.ok,I.os,I.bare,⟨λb o e n hb hx=>?_,λb o e n hb hx=>?_,I.base.free,λb o e hx=>?_,I.base.tups,I.base.frzs,I.base.tbls⟩,⟨_,hn',λj y v' e1 e2 e3=>?_⟩,λy c e=>?_,I.free,I.freeC,λp hp=>?_,tracked ⟨oL,hoL,I.free⟩ hs,by simpa using I.len⟩ ⟨_,hs,.inl rfl⟩
  ·exact (hs.2 b (cG (bE (Heap.lt_size e) I.ok.above))).trans (I.base.keep b o e n hb hx)
  ·obtain ⟨sl,e1⟩:=I.base.slot b o e n hb hx;exact ⟨sl,(hs.2 b (cG (bE (Heap.lt_size e) I.ok.above))).trans e1⟩
  ·obtain ⟨o',e1⟩:=I.base.there b o e hx;exact ⟨o',(hs.2 b (cG (bE (Heap.lt_size e) I.ok.above))).trans e1⟩
  ·by_cases hj:j=i
   ·subst hj;rw[hi] at e1;cases e1;rw[List.getElem?_set_self hiσ] at e2;cases e2;exact ⟨u,r,.inl ⟨hk,by simp⟩⟩
   ·rw[List.getElem?_set_ne (Ne.symm hj)] at e2;obtain ⟨u',r',q⟩:=hl j y v' e1 e2 e3;refine ⟨u',r',?_⟩;rcases q with ⟨k,e⟩ | ⟨k,c,e,z⟩
    ·refine .inl ⟨k,?_⟩;have:y≠x:=λe=>hj (Dj hN e1 (e ▸ hi))
     simp [this,e]
    ·exact .inr ⟨k,c,e,z.sameBut hs (cne y c e)⟩
  ·obtain ⟨w',z⟩:=I.cell y c e;exact ⟨w',z.sameBut hs (cne y c e)⟩
  ·obtain ⟨e,n,ne,nf,d⟩:=I.pin p hp;exact ⟨(hs.2 p.1 ne).trans e,n,ne,nf,d⟩
 ·have hfn:X.fn x=true:=by
   rcases hf with z | z
   ·exact z
   ·rw[z] at hk;cases hk
  obtain ⟨c,hc⟩:=I.ok.has x (.inl hk);obtain ⟨w',z⟩:=I.cell x c hc;refine wpAny_storeName_cell I.ok.kind hk hc z (λh' hc' hs=>?_);obtain ⟨oc,hoc,hocd⟩:=id z;refine h { s with heap:=h' } ⟨I.ok,I.os,I.bare,⟨λb o e n hb hx=>?_,λb o e n hb hx=>?_,I.base.free,λb o e hx=>?_,I.base.tups,I.base.frzs,I.base.tbls⟩,⟨m,hn.sameBut hs (Ne.symm (cne x c hc)),λj y v' e1 e2 e3=>?_⟩,λy c' e=>?_,I.free,I.freeC,λp hp=>?_,tracked ⟨oc,hoc,I.freeC x c hc⟩ hs,by simpa using I.len⟩ ⟨c,hs,.inr hc⟩
  ·exact (hs.2 b (cG (bE (Heap.lt_size e) (I.ok.cab x c hfn hc)))).trans (I.base.keep b o e n hb hx)
  ·obtain ⟨sl,e1⟩:=I.base.slot b o e n hb hx;exact ⟨sl,(hs.2 b (cG (bE (Heap.lt_size e) (I.ok.cab x c hfn hc)))).trans e1⟩
  ·obtain ⟨o',e1⟩:=I.base.there b o e hx;exact ⟨o',(hs.2 b (cG (bE (Heap.lt_size e) (I.ok.cab x c hfn hc)))).trans e1⟩
  ·by_cases hj:j=i
   ·subst hj;rw[hi] at e1;cases e1;rw[List.getElem?_set_self hiσ] at e2;cases e2;exact ⟨u,r,.inr ⟨.inl hk,c,hc,hc'⟩⟩
   ·rw[List.getElem?_set_ne (Ne.symm hj)] at e2;obtain ⟨u',r',q⟩:=hl j y v' e1 e2 e3;refine ⟨u',r',?_⟩;rcases q with q | ⟨k,c',e,z'⟩
    ·exact .inl q
    ·refine .inr ⟨k,c',e,z'.sameBut hs ?_⟩;rintro rfl;exact hj (Dj hN e1 (I.ok.inj _ _ _ e hc ▸ hi))
  ·by_cases hcc:c'=c
   ·subst hcc;exact ⟨_,hc'⟩
   ·obtain ⟨w2,z2⟩:=I.cell y c' e;exact ⟨w2,z2.sameBut hs hcc⟩
  ·obtain ⟨e,n,ne,nf,d⟩:=I.pin p hp;refine ⟨(hs.2 p.1 ?_).trans e,n,ne,nf,d⟩;intro q;rw[q,hoc] at e;have q':oc=p.2:=cf e;exact d w' (by rw[<- q'];exact hocd)
theorem sS {M:Model} {A:Around} {E:Value->Shared->Prop} {i:Nat} {x:Str} {v:V} {u:Value} {Q:Unit->Shared->Prop} (I:Inv X pins σ H s) (hN:X.N.Nodup) (hi:X.N[i]?=some x) (hx:Loc X.env.scope x) (r:RelV v u)
  (h:∀s',Inv X pins (σ.set i (some v)) H s'->Q () s') (hf:X.fn x=true\/X.env.scope.names.lookup x=some .local:=by first | exact .inl rfl | exact .inr rfl | assumption):wpAny M A (storeName X.env x u) Q E s :=
 zW I hN hi hx r (λs' I' _=>h s' I') hf
theorem Inv.call' (I:Inv X pins σ H s) (ho:s'.os=s.os) (u:Un (GV X.stack) ch H H' s.heap s'.heap) (hok:xE X.prog X.w H' s'.heap) (hg:AllBare s'.gens)
  (hch:∀b∈ch,(b∈X.ex\/X.s₀.heap.objs.size<=b)/\b≠X.env.locals/\(∀x c,X.env.cells.lookup x=some c->c≠b)/\∀p∈X.pn++pins,p.1≠b):Inv X pins σ H' s':=by
 obtain ⟨h',g',d',t',o'⟩:=s';have e:o'=s.os:=ho;subst e;exact I.call (g':=g') (t':=t') (d':=d') u hok hg hch
end
abbrev XK:=Value->Option Addr->Hp->Prop
abbrev St:=List (Option V)
abbrev VK:=V->Hp->Prop
abbrev TE:=St->Hp->VK->Prop
abbrev TT:=St->Hp->(Bool->Hp->Prop)->Prop
abbrev TA:=St->Hp->(List V->Hp->Prop)->Prop
structure Ends where
 nx:St->Hp->Prop
 rt:VK
 bk:St->Hp->Prop:=λ_ _=>False
 ct:St->Hp->Prop:=λ_ _=>False
abbrev TS:=Ends->St->Hp->Prop
def EP (X:Cx) (pins:List (Addr×Obj)) (σ:St) (Q:VK) (u:Value) (s':Shared):Prop:=∃v H',Inv X pins σ H' s'/\RelV v u/\Q v H'
def TP (X:Cx) (pins:List (Addr×Obj)) (σ:St) (Q:Bool->Hp->Prop) (b:Bool) (s':Shared):Prop:=∃H',Inv X pins σ H' s'/\Q b H'
def AP (X:Cx) (pins:List (Addr×Obj)) (σ:St) (Q:List V->Hp->Prop) (us:List Value) (s':Shared):Prop:=∃vs H',Inv X pins σ H' s'/\cC vs us/\Q vs H'
def SP (X:Cx) (pins:List (Addr×Obj)) (D:Ends) (f:Flow) (s':Shared):Prop :=
 match f with
 | .next=>∃σ' H',Inv X pins σ' H' s'/\D.nx σ' H'
 | .brk=>∃σ' H',Inv X pins σ' H' s'/\D.bk σ' H'
 | .cont=>∃σ' H',Inv X pins σ' H' s'/\D.ct σ' H'
 | .ret u=>∃v σ' H',Inv X pins σ' H' s'/\RelV v u/\D.rt v H'
def PE (X:Cx) (e:Expr) (t:TE):Prop :=
 ∀(pins:List (Addr×Obj)) (s:Shared) (σ:St) (H:Hp) (Q:VK),Inv X pins σ H s->t σ H Q->wpAny (model X.prog X.w) X.A (eval e X.env) (EP X pins σ Q) X.xe s
def PT (X:Cx) (e:Expr) (t:TT):Prop :=
 ∀(pins:List (Addr×Obj)) (s:Shared) (σ:St) (H:Hp) (Q:Bool->Hp->Prop),Inv X pins σ H s->t σ H Q->wpAny (model X.prog X.w) X.A (isTrue e X.env (eval e X.env)) (TP X pins σ Q) X.xe s
def PW (X:Cx) (e:Expr) (t:TT):Prop :=
 ∀(whole:Sem Value) (pins:List (Addr×Obj)) (s:Shared) (σ:St) (H:Hp) (Q:Bool->Hp->Prop),Inv X pins σ H s->t σ H Q->wpAny (model X.prog X.w) X.A (isTrue e X.env whole) (TP X pins σ Q) X.xe s
theorem PW.pt (h:PW X e t):PT X e t:=h _
def PA (X:Cx) (es:List Expr) (t:TA):Prop :=
 ∀(pos:Pos) (pins:List (Addr×Obj)) (s:Shared) (σ:St) (H:Hp) (Q:List V->Hp->Prop),Inv X pins σ H s->t σ H Q->wpAny (model X.prog X.w) X.A (spliced (backTo pos (starEach es X.env))) (AP X pins σ Q) X.xe s
def PS (X:Cx) (st:Stmt) (t:TS):Prop :=
 ∀(pins:List (Addr×Obj)) (s:Shared) (σ:St) (H:Hp) (D:Ends),Inv X pins σ H s->t D σ H->wpAny (model X.prog X.w) X.A (exec st X.env) (SP X pins D) X.xe s
def EE (X:Cx) (st:List Stmt) (t:TS):Prop :=
 ∀(pins:List (Addr×Obj)) (s:Shared) (σ:St) (H:Hp) (D:Ends),Inv X pins σ H s->t D σ H->wpAny (model X.prog X.w) X.A (execs st X.env) (SP X pins D) X.xe s
theorem fz {t:Sem α} {Q Q':α->Shared->Prop} (h:wpAny M A t Q E s) (hQ:∀a s,Q a s->Q' a s):wpAny M A t Q' E s:=wpAny_mono h hQ λ_ _ x=>x
section
variable {X:Cx}
def L9 (i:Nat):TE:=λσ H Q=>∃v,σ[i]?=some (some v)/\Q v H
def tC (v:V):TE:=λ_ H Q=>Q v H
theorem MI {i:Nat} {x:Str} {pos:Pos} (hN:X.N[i]?=some x) (hv:Pl X.env.scope x) (hd:(x == ("__debug__":Str))=false:=by decide) (hcd:(x == ("__classdict__":Str))=false:=by decide):PE X (.Name x pos) (L9 i):=by
 intro pins s σ H Q I h;obtain ⟨v,e,h⟩:=h;obtain ⟨m,hn,hl⟩:=I.loc;obtain ⟨u,r,l⟩:=hl i x v hN e hv;have fin:EP X pins σ Q u s:=⟨v,H,I,r,h⟩;rcases l with ⟨hk,hm⟩ | ⟨hk,c,hc,hcell⟩
 ·exact wpAny_Name (wpAny_loadName_local I.ok.kind hk hn hm fin) hd
 ·rcases hk with hk | hk
  ·exact wpAny_Name (wpAny_loadName_cell I.ok.kind hk hc hcell fin) hd
  ·exact wpAny_Name (wpAny_loadName_free I.ok.kind hk hc hcell fin hcd) hd
theorem ar:PE X (.Constant (.int i) j pos) (tC (.int i)):=λ_ _ _ H _ I h=>wpAny_Constant_int ⟨.int i,H,I.tok _,⟨_,rfl⟩,h⟩
theorem mH:PE X (.Constant (.bool b) j pos) (tC (.bl b)):=λ_ _ _ H _ I h=>Constant_bool ⟨.bl b,H,I,rfl,h⟩
theorem BB:PE X (.Constant .none j pos) (tC .non):=λ_ _ _ H _ I h=>Constant_none ⟨.non,H,I,rfl,h⟩
def Gl (X:Cx) (x:Str):Prop:=X.env.kindOf x=some .globalImplicit
theorem BS {E:Value->Shared->Prop} {pins:List (Addr×Obj)} {s:Shared} {σ:St} {H:Hp} {x:Str} {u:Value} {pos:Pos} {Q:Value->Shared->Prop} (I:Inv X pins σ H s) (hg:Gl X x) (hm:X.mg x=some u) (h:Q u s)
  (hd:(x == ("__debug__":Str))=false:=by decide):wpAny (model X.prog X.w) X.A (eval (.Name x pos) X.env) Q E s :=
 Calls.Name_function_global I.ok.kind hg (Calls.loadGlobal_global (by rw[I.ok.glob];exact I.mod.glob.keeps I.bk) hm h) hd
theorem jc {E:Value->Shared->Prop} {pins:List (Addr×Obj)} {s:Shared} {σ:St} {H:Hp} {x:Str} {u:Value} {pos:Pos} {Q:Value->Shared->Prop} (I:Inv X pins σ H s) (hg:Gl X x) (hm:X.mg x=none) (hv:bootBuiltins x=some u) (h:Q u s)
  (hn:x≠"__name__":=by decide) (hd:(x == ("__debug__":Str))=false:=by decide):wpAny (model X.prog X.w) X.A (eval (.Name x pos) X.env) Q E s:=by
 obtain ⟨mb,h1,h2⟩:=I.mod.blt;exact Calls.Name_function_global I.ok.kind hg (Calls.loadGlobal_builtin (by rw[I.ok.glob];exact I.mod.glob.keeps I.bk) hm (by rw[I.ok.blt];exact h1.keeps I.bk) ((h2 x hn).trans hv) h) hd
theorem nF {x:Str} {v:V} {u:Value} {pos:Pos} (hg:Gl X x) (hm:X.mg x=some u) (r:RelV v u) (hd:(x == ("__debug__":Str))=false:=by decide):PE X (.Name x pos) (tC v) :=
 λ_ _ _ H _ I h=>BS I hg hm ⟨v,H,I,r,h⟩ hd
theorem Fc {x:Str} {v:V} {u:Value} {pos:Pos} (hg:Gl X x) (hm:X.mg x=none) (hv:bootBuiltins x=some u) (r:RelV v u) (hn:x≠"__name__":=by decide) (hd:(x == ("__debug__":Str))=false:=by decide):PE X (.Name x pos) (tC v) :=
 λ_ _ _ H _ I h=>jc I hg hm hv ⟨v,H,I,r,h⟩ hn hd
variable {a b:Expr} {ta tb:TE} {pos:Pos}
def tB (t:TE):TT:=λσ H Q=>t σ H λx H1=>∃c,x=.bl c/\Q c H1
theorem ij {e:Expr} {t:TE} (h:PE X e t) (he:∀whole,isTrue e X.env whole=(do let v <- whole;standAt e.pos;holding [v] (truthy v)):=by intro _;rfl):PT X e (tB t):=by
 intro pins s σ H Q I hw;refine isTrue_plain (fz (h pins s σ H _ I hw) λv s1 ⟨x,H1,I1,r1,q1⟩=>?_) (he _);obtain ⟨d,rfl,q⟩:=q1;cases r1;exact wpAny_truthy_bool ⟨H1,I1,q⟩
variable {tA tB':TT} {rest:List Expr}
def NS (t u:TT):TT:=λσ H Q=>t σ H λc H1=>if c=true then u σ H1 Q else Q false H1
def tOr (t u:TT):TT:=λσ H Q=>t σ H λc H1=>if c=true then Q true H1 else u σ H1 Q
def NO (t:TT):TT:=λσ H Q=>t σ H λc H1=>Q (!c) H1
theorem kM (ha:PT X a tA):PW X (.BoolOp .And [a] pos) tA:=by
 intro wh pins s σ H Q I h;refine isTrue_and (fz (ha pins s σ H Q I h) λc s1 e=>?_);cases c with
 | true=>exact isTrue_and_nil e
 | false=>exact e
theorem iW (ha:PT X a tA):PW X (.BoolOp .Or [a] pos) tA:=by
 intro wh pins s σ H Q I h;refine isTrue_or (fz (ha pins s σ H Q I h) λc s1 e=>?_);cases c with
 | false=>exact isTrue_or_nil e
 | true=>exact e
theorem jL (ha:PT X a tA) (hb:PW X (.BoolOp .And (b :: rest) pos) tB'):PW X (.BoolOp .And (a :: b :: rest) pos) (NS tA tB'):=by
 intro wh pins s σ H Q I h;refine isTrue_and (fz (ha pins s σ H _ I h) λc s1 ⟨H1,I1,q1⟩=>?_);cases c with
 | true=>exact hb wh pins s1 σ H1 Q I1 q1
 | false=>exact ⟨H1,I1,q1⟩
theorem kL (ha:PT X a tA) (hb:PW X (.BoolOp .Or (b :: rest) pos) tB'):PW X (.BoolOp .Or (a :: b :: rest) pos) (tOr tA tB'):=by
 intro wh pins s σ H Q I h;refine isTrue_or (fz (ha pins s σ H _ I h) λc s1 ⟨H1,I1,q1⟩=>?_);cases c with
 | true=>exact ⟨H1,I1,q1⟩
 | false=>exact hb wh pins s1 σ H1 Q I1 q1
theorem jM (ha:PT X a tA):PT X (.UnaryOp .Not a pos) (NO tA):=by
 intro pins s σ H Q I h;exact isTrue_not (ha pins s σ H (λc H1=>Q (!c) H1) I h)
def Ll (ta tb:TE):TE:=λσ H Q=>ta σ H λx H1=>∃c,x=.bl c/\if c=true then tb σ H1 Q else Q (.bl false) H1
def Ld (ta:TE):TE:=λσ H Q=>ta σ H λx H1=>∃c,x=.bl c/\Q (.bl (!c)) H1
theorem BA (h:PE X a t):PE X (.BoolOp op [a] pos) t:=λpins s σ H Q I hw=>BoolOp_one (h pins s σ H Q I hw)
theorem BE (ha:PE X a ta) (hb:PE X (.BoolOp .And (b :: rest) pos) tb):PE X (.BoolOp .And (a :: b :: rest) pos) (Ll ta tb):=by
 intro pins s σ H Q I h;refine BoolOp_and (fz (ha pins s σ H _ I h) λv s1 ⟨x,H1,I1,r1,q1⟩=>?_);obtain ⟨c,rfl,q1⟩:=q1;cases r1;refine wpAny_truthy_bool ?_;cases c with
 | true=>exact hb pins s1 σ H1 Q I1 q1
 | false=>exact ⟨.bl false,H1,I1,rfl,q1⟩
theorem MJ (ha:PE X a ta):PE X (.UnaryOp .Not a pos) (Ld ta):=by
 intro pins s σ H Q I h;refine UnaryOp_ (fz (ha pins s σ H _ I h) λv s1 ⟨x,H1,I1,r1,q1⟩=>?_);obtain ⟨c,rfl,q1⟩:=q1;cases r1;exact not_of (wpAny_truthy_bool ⟨.bl (!c),H1,I1,rfl,q1⟩)
def tIf (t:TT) (ta tb:TE):TE:=λσ H Q=>t σ H λc H1=>if c=true then ta σ H1 Q else tb σ H1 Q
theorem Ik (hc:PT X c tA) (ha:PE X a ta) (hb:PE X b tb):PE X (.IfExp c a b pos) (tIf tA ta tb):=by
 intro pins s σ H Q I h;refine wpAny_IfExp (fz (hc pins s σ H _ I h) λd s1 ⟨H1,I1,q1⟩=>?_);cases d with
 | true=>exact ha pins s1 σ H1 Q I1 q1
 | false=>exact hb pins s1 σ H1 Q I1 q1
end
def bO (K:FG9) (H:Hp) (a:Addr) (xs:List V):Prop :=
 Rd H a (.lst xs) \/
  ∃(o:Obj) (its:Array Value) (n:Nat),K.lookup a=some o/\o.cls=.type "list"/\o.dict=none/\o.data=.seq its n/\its.size<=sizeLine/\cC xs its.toList
def kD (K:FG9) (H:Hp) (a:Addr) (xs:List V):Prop :=
 Rd H a (.tup xs) \/
  ∃(o:Obj) (its:Array Value) (n:Nat),K.lookup a=some o/\o.cls=.type "tuple"/\o.data=.seq its n/\its.size<=sizeLine/\cC xs its.toList
def Pk:Value->Option V
 | .none=>some .non
 | .bool b=>some (.bl b)
 | .int i _=>some (.int i)
 | .str x _=>some (.str x)
 | .bytes b _=>some (.byt b)
 | .float b _=>some (.flt b)
 | .ref a=>some (.ref a)
 | .type n=>some (.ty n)
 | _=>none
theorem RelV.abs (r:RelV x u):Pk u=some x:=by
 cases x with
 | non=>cases r;rfl
 | bl _=>cases r;rfl
 | int _=>obtain ⟨t,rfl⟩:=r;rfl
 | str _=>obtain ⟨t,rfl⟩:=r;rfl
 | byt _=>obtain ⟨t,rfl⟩:=r;rfl
 | flt _=>obtain ⟨t,rfl⟩:=r;rfl
 | ref _=>cases r;rfl
 | ty _=>cases r;rfl
theorem RelV.inj (r:RelV x u) (q:RelV y u):x=y:=cf (r.abs.symm.trans q.abs)
theorem cC.inj:∀{xs ys:List V} {us:List Value},cC xs us->cC ys us->xs=ys
 | _,_,_,.nil,.nil=>rfl
 | _,_,_,.cons r t,.cons r' t'=>by rw[r.inj r',cC.inj t t']
section
variable {X:Cx} {pins:List (Addr×Obj)} {σ:St} {H:Hp} {s:Shared} {a:Addr} {xs ys:List V}
theorem bO.of {K:FG9} (h:H a=some (.lst xs)):bO K H a xs:=.inl (.inl h)
theorem kD.of {K:FG9} (h:H a=some (.tup xs)):kD K H a xs:=.inl (.inl h)
theorem Inv.list (I:Inv X pins σ H s) (h:bO X.K H a xs):∃its:List Value,cC xs its/\PlainL s.heap a its.toArray/\xs.length<=sizeLine:=by
 rcases h with h | ⟨o,its,n,hk,hc,hd,hs,hz,r⟩
 ·obtain ⟨z,its,n,r,e⟩:=h.ok I.hok;exact ⟨its,r,⟨_,n,e,rfl,rfl,rfl⟩,z⟩
 ·refine ⟨its.toList,r,⟨o,n,I.kIn a o hk,hc,hd,by simpa using hs⟩,?_⟩;have e:=r.length;simp only[Array.length_toList] at e
  lia
theorem Inv.tuple (I:Inv X pins σ H s) (h:kD X.K H a xs):∃its:List Value,cC xs its/\IsTup s.heap a its.toArray/\xs.length<=sizeLine:=by
 rcases h with h | ⟨o,its,n,hk,hc,hs,hz,r⟩
 ·obtain ⟨z,its,r,p⟩:=h.ok I.hok;exact ⟨its,r,p,z⟩
 ·refine ⟨its.toList,r,⟨o,I.kIn a o hk,hc,n,by simpa using hs⟩,?_⟩;have e:=r.length;simp only[Array.length_toList] at e
  lia
theorem Inv.list_inj (I:Inv X pins σ H s) (h:bO X.K H a xs) (h':bO X.K H a ys):xs=ys:=by
 obtain ⟨its,r,⟨o,n,e,_,_,d⟩,_⟩:=I.list h;obtain ⟨its',r',⟨o',n',e',_,_,d'⟩,_⟩:=I.list h';rw[e] at e';cases e';rw[d] at d';injection d' with d1 _
 have:its=its':=by simpa using congrArg Array.toList d1
 subst this;exact r.inj r'
theorem Inv.tuple_inj (I:Inv X pins σ H s) (h:kD X.K H a xs) (h':kD X.K H a ys):xs=ys:=by
 obtain ⟨its,r,⟨o,e,_,n,d⟩,_⟩:=I.tuple h;obtain ⟨its',r',⟨o',e',_,n',d'⟩,_⟩:=I.tuple h';rw[e] at e';cases e';rw[d] at d';injection d' with d1 _
 have:its=its':=by simpa using congrArg Array.toList d1
 subst this;exact r.inj r'
end
abbrev Cx.wish (X:Cx) (E:Value->Shared->Prop):Cx:={ X with xe:=E }
abbrev Cx.nox (X:Cx):Cx:=X.wish λ_ _=>False
theorem Cx.Ok.wish {X:Cx} (ok:X.Ok) (E:Value->Shared->Prop):(X.wish E).Ok :=
 ⟨ok.mod,ok.kind,ok.glob,ok.blt,ok.above,ok.inj,ok.has,ok.cab,ok.hd,ok.frames,ok.stk,ok.exf,ok.bs,ok.bsz,ok.noex,ok.exfs,ok.funs,ok.frf⟩
theorem Cx.Ok.unwish {X:Cx} (ok:(X.wish E).Ok):X.Ok :=
 ⟨ok.mod,ok.kind,ok.glob,ok.blt,ok.above,ok.inj,ok.has,ok.cab,ok.hd,ok.frames,ok.stk,ok.exf,ok.bs,ok.bsz,ok.noex,ok.exfs,ok.funs,ok.frf⟩
section
variable {X:Cx} {pins:List (Addr×Obj)} {σ:St} {H:Hp} {s:Shared} {E:Value->Shared->Prop}
theorem Inv.wish (I:Inv X pins σ H s) (E:Value->Shared->Prop):Inv (X.wish E) pins σ H s:=⟨I.ok.wish E,I.os,I.bare,I.base,I.loc,I.cell,I.free,I.freeC,I.pin,I.hok,I.len⟩
theorem Inv.unwish (I:Inv (X.wish E) pins σ H s):Inv X pins σ H s:=⟨I.ok.unwish,I.os,I.bare,I.base,I.loc,I.cell,I.free,I.freeC,I.pin,I.hok,I.len⟩
theorem SP.unwish (h:SP (X.wish E) pins D f s'):SP X pins D f s':=by
 cases f with
 | next=>obtain ⟨σ',H',I,q⟩:=h;exact ⟨σ',H',I.unwish,q⟩
 | brk=>obtain ⟨σ',H',I,q⟩:=h;exact ⟨σ',H',I.unwish,q⟩
 | cont=>obtain ⟨σ',H',I,q⟩:=h;exact ⟨σ',H',I.unwish,q⟩
 | ret u=>obtain ⟨v,σ',H',I,r,q⟩:=h;exact ⟨v,σ',H',I.unwish,r,q⟩
theorem EE.nox {st:List Stmt} (h:EE X.nox st t):EE X st t:=λpins s σ H D I hw =>
 wpAny_mono (h pins s σ H D (I.wish _) hw) (λ_ _ q=>q.unwish) λ_ _ z=>False.elim z
end
section
variable {X:Cx} {st:Stmt} {rest:List Stmt} {t u:TS} {e:Expr} {te:TE} {pos:Pos}
def Le:TS:=λD σ H=>D.nx σ H
def NJ (t u:TS):TS:=λD σ H=>t { D with nx:=u D } σ H
theorem bY:EE X [] Le:=λ_ _ σ H _ I h=>wpAny_execs_nil ⟨σ,H,I,h⟩
theorem aw (h1:PS X st t) (h2:EE X rest u):EE X (st :: rest) (NJ t u):=by
 intro pins s σ H D I h;refine wpAny_execs_cons (fz (h1 pins s σ H { D with nx:=u D } I h) λf s1 q=>?_);cases f with
 | next =>
  obtain ⟨σ',H',I',q⟩:=q;exact h2 pins s1 σ' H' D I' q
 | ret v=>exact q
 | brk=>exact q
 | cont=>exact q
theorem aA (h1:PS X st t):EE X [st] t:=by
 intro pins s σ H D I h;refine wpAny_execs_cons (fz (h1 pins s σ H D I h) λf s1 q=>?_);cases f with
 | next=>exact wpAny_execs_nil q
 | ret v=>exact q
 | brk=>exact q
 | cont=>exact q
theorem Inv.quiet {σ:St} (I:Inv X pins σ H s):interactive X.env=false:=by simp [interactive,I.ok.kind]
def Lj (te:TE):TS:=λD σ H=>te σ H λ_ H1=>D.nx σ H1
theorem ji (he:PE X e te) (hs:swapsWith e none pos.line X.env=pure false:=by rfl):PS X (.Expr e pos) (Lj te):=by
 intro pins s σ H D I h;exact wpAny_Expr_any (fz (he pins s σ H _ I h) λv s1 ⟨x,H1,I1,r1,q1⟩=>⟨σ,H1,I1,q1⟩) I.quiet hs
def NK (te:TE):TS:=λD σ H=>te σ H D.rt
theorem aY (he:PE X e te):PS X (.Return (some e) pos) (NK te):=by
 intro pins s σ H D I h;exact wpAny_Return_some (fz (he pins s σ H _ I h) λv s1 ⟨x,H1,I1,r1,q1⟩=>⟨x,σ,H1,I1,r1,q1⟩)
def NQ (c:TT) (t u:TS):TS:=λD σ H=>c σ H λb H1=>if b=true then t D σ H1 else u D σ H1
theorem cZ (hc:PT X c tc) (ha:EE X a t) (hb:EE X b u):PS X (.If c a b pos) (NQ tc t u):=by
 intro pins s σ H D I h;refine wpAny_If (fz (hc pins s σ H _ I h) λd s1 ⟨H1,I1,q1⟩=>?_);cases d with
 | true=>exact ha pins s1 σ H1 D I1 q1
 | false=>exact hb pins s1 σ H1 D I1 q1
end
abbrev TG:=V->St->Hp->(St->Hp->Prop)->Prop
abbrev Jy:=List V->St->Hp->(St->Hp->Prop)->Prop
def PG (X:Cx) (target:Expr) (t:TG):Prop :=
 ∀(pins:List (Addr×Obj)) (s:Shared) (σ:St) (H:Hp) (v:V) (u:Value) (Q:St->Hp->Prop),Inv X pins σ H s->RelV v u->t v σ H Q →
  wpAny (model X.prog X.w) X.A (assign target X.env u) (λ_ s'=>∃σ' H',Inv X pins σ' H' s'/\Q σ' H') X.xe s
def OM (X:Cx) (ts:List Expr) (t:Jy):Prop :=
 ∀(pins:List (Addr×Obj)) (s:Shared) (σ:St) (H:Hp) (vs:List V) (us:List Value) (Q:St->Hp->Prop),Inv X pins σ H s->cC vs us->t vs σ H Q →
  wpAny (model X.prog X.w) X.A (assignInOrder ((assignEach ts X.env).map (·.2)) us) (λ_ s'=>∃σ' H',Inv X pins σ' H' s'/\Q σ' H') X.xe s
abbrev EB:=V->V->V->Hp->(Hp->Prop)->Prop
def Ni (X:Cx) (t:EB):Prop :=
 ∀(pins:List (Addr×Obj)) (s:Shared) (σ:St) (H:Hp) (o i v:V) (ov iv u:Value) (Q:Hp->Prop),Inv X pins σ H s->RelV o ov->RelV i iv->RelV v u->t o i v H Q →
  wpAny (model X.prog X.w) X.A (setItem ov iv u) (λ_ s'=>∃H',Inv X pins σ H' s'/\Q H') X.xe s
abbrev OL:=V->V->Hp->VK->Prop
def PIp (X:Cx) (op:Operator) (t:OL):Prop :=
 ∀(pins:List (Addr×Obj)) (s:Shared) (σ:St) (H:Hp) (x y:V) (v u:Value) (Q:VK),Inv X pins σ H s->RelV x v->RelV y u->t x y H Q →
  wpAny (model X.prog X.w) X.A (inplaceOp op v u) (EP X pins σ Q) X.xe s
section
variable {X:Cx} {pos:Pos}
def Fu (i:Nat):TG:=λv σ H Q=>Q (σ.set i (some v)) H
theorem aM {i:Nat} {x:Str} (hN:X.N.Nodup) (hi:X.N[i]?=some x:=by exact rfl) (hx:Loc X.env.scope x:=by exact Or.inl rfl) (hf:X.fn x=true\/X.env.scope.names.lookup x=some .local:=by first | exact .inl rfl | exact .inr rfl | assumption):PG X (.Name x pos) (Fu i):=by
 intro pins s σ H v u Q I r h;exact wpAny_assign_Name (sS I hN hi hx r (λs' I'=>⟨_,H,I',h⟩) hf)
def OE:Jy:=λvs σ H Q=>vs=[]/\Q σ H
def LH (t:TG) (u:Jy):Jy:=λvs σ H Q=>∃v r,vs=v :: r/\t v σ H λσ' H'=>u r σ' H' Q
theorem jV:OM X [] OE:=by
 intro pins s σ H vs us Q I r h;obtain ⟨e,h⟩:=h;subst e;cases r;exact assignInOrder_nil ⟨σ,H,I,h⟩
theorem c7 {e:Expr} {es:List Expr} {t:TG} {u:Jy} (h1:PG X e t) (h2:OM X es u)
  (hs:(assignEach (e :: es) X.env).map (·.2)=assign e X.env :: (assignEach es X.env).map (·.2):=by rfl):OM X (e :: es) (LH t u):=by
 intro pins s σ H vs us Q I r h;obtain ⟨v,vr,e1,h⟩:=h;subst e1;cases r with
 | cons r rr =>
  rw[hs];refine assignInOrder_cons (fz (h1 pins s σ H _ _ _ I r h) λ_ s1 ⟨σ1,H1,I1,q1⟩=>?_);exact h2 pins s1 σ1 H1 _ _ Q I1 rr q1
def M9 (K:FG9) (n:Nat) (t:Jy):TG:=λv σ H Q=>∃a xs,v=.ref a/\kD K H a xs/\xs.length=n/\t xs σ H Q
theorem yn {es:List Expr} {k:Nat} {t:Jy} {n:Nat} (hc:X.calm=true) (h:OM X es t)
  (hn:(assignEach es X.env).length=n:=by rfl) (hst:(assignEach es X.env).findIdx? (·.1)=none:=by rfl):PG X (.Tuple es k pos) (M9 X.K n t):=by
 intro pins s σ H v u Q I r hw;obtain ⟨a,xs,e1,hq,hl,hw⟩:=hw;subst e1;cases r;obtain ⟨its,rv,ht,hz⟩:=I.tuple hq;refine assign_Tuple_tuple (I.ok.hd hc) ht (by simp [hn,<- hl,rv.length]) hst λh' hx=>?_
 have I1:Inv X pins σ H { s with heap:=h' }:=I.kept (t':=s.toks) λb o e=>hx b o (cG (Heap.lt_size e)) e
 exact h pins _ σ H xs _ Q I1 (by simpa using rv) hw
def OD (to ti:TE) (t:EB):TG:=λv σ H Q=>to σ H λo H1=>ti σ H1 λi H2=>t o i v H2 λH3=>Q σ H3
theorem fB {o i : Expr} {to ti : TE} {t : EB} (ho : PE X o to) (hi : PE X i ti) (hs : Ni X t)
    (ha : ∀ v, assign (.Subscript o i pos) X.env v = (do
      let ov <- holding [v] (eval o X.env)
      let iv <- holding [v, ov] (eval i X.env)
      standAt pos
      holding [v, ov, iv] (setItem ov iv v)
      release [v, ov, iv] []) := by intro _; rfl) : PG X (.Subscript o i pos) (OD to ti t) := by
  intro pins s σ H v u Q I r h;rw [ha];refine wpAny_bind (wpAny_holding (fz (ho pins s σ H _ I h) λov s1 ⟨x, H1, I1, r1, q1⟩ => ?_));refine wpAny_bind (wpAny_holding (fz (hi pins s1 σ H1 _ I1 q1) λiv s2 ⟨y, H2, I2, r2, q2⟩ => ?_));refine wpAny_bind (wpAny_standAt (wpAny_bind (wpAny_holding (fz (hs pins s2 σ H2 x y v ov iv u _ I2 r1 r2 r q2) λ_ s3 ⟨H3, I3, q3⟩ => ?_))));exact wpAny_release ⟨σ, H3, I3, q3⟩
def JN (te:TE) (g:TG):TS:=λD σ H=>te σ H λx H1=>g x σ H1 D.nx
theorem eV {tg e:Expr} {te:TE} {g:TG} (he:PE X e te) (hg:PG X tg g) (hs:swapsWithSole [tg] e pos.line X.env=pure false:=by rfl) (hw:swappedStores [tg] e X.env=pure none:=by rfl)
  (h1:(assignEach [tg] X.env).map (·.2)=[assign tg X.env]:=by rfl):PS X (.Assign [tg] e pos) (JN te g):=by
 intro pins s σ H D I h;refine wpAny_Assign_stores (fz (he pins s σ H _ I h) λv s1 ⟨x,H1,I1,r1,q1⟩=>?_) hs hw;rw[h1];exact fz (hg pins s1 σ H1 x v _ I1 r1 q1) λ_ s2 q=>q
theorem a8 {i:Nat} {x:Str} {e:Expr} {te:TE} {pos':Pos} (hN:X.N.Nodup) (hi:X.N[i]?=some x) (hx:Loc X.env.scope x) (he:PE X e te) (hs:swapsWith e (some (.Name x pos')) pos.line X.env=pure false:=by rfl) (hf:X.fn x=true\/X.env.scope.names.lookup x=some .local:=by first | exact .inl rfl | exact .inr rfl | assumption) :
  PS X (.Assign [.Name x pos'] e pos) (JN te (Fu i)):=by
 intro pins s σ H D I h;refine wpAny_Assign_Name (fz (he pins s σ H _ I h) λv s1 ⟨y,H1,I1,r1,q1⟩=>?_) hs;exact sS I1 hN hi hx r1 (λs2 I2=>⟨_,H1,I2,q1⟩) hf
def NL (i j:Nat) (ta:TA):TS:=λD σ H=>ta σ H λvs H1=>∃v w,vs=[v,w]/\D.nx ((σ.set i (some v)).set j (some w)) H1
theorem Ih {i j:Nat} {x y:Str} {a b:Expr} {ta:TA} {px py pt:Pos} {kt k2 pt2} (hc:X.calm=true) (hN:X.N.Nodup) (hi:X.N[i]?=some x) (hj:X.N[j]?=some y) (hij:i≠j)
  (hx:X.env.scope.names.lookup x=some .local) (hy:X.env.scope.names.lookup y=some .local) (ha:PA X [a,b] ta)
  (hw:swappedStores [.Tuple [.Name x px,.Name y py] kt pt] (.Tuple [a,b] k2 pt2) X.env=pure (some [x,y]))
  (hs:swapsWithSole [.Tuple [.Name x px,.Name y py] kt pt] (.Tuple [a,b] k2 pt2) pos.line X.env=pure false:=by rfl) :
  PS X (.Assign [.Tuple [.Name x px,.Name y py] kt pt] (.Tuple [a,b] k2 pt2) pos) (NL i j ta):=by
 intro pins s σ H D I h;rw[exec_Assign_arm];refine wpAny_bind (wpAny_standAt ?_);rw[hs];refine wpAny_bind (wpAny_pure ?_);rw[if_neg (by decide)];refine wpAny_bind (Tuple_ (fz (ha _ pins s σ H _ I h) λus s1 ⟨vs,H1,I1,r1,q1⟩=>?_));obtain ⟨v,w,e1,q1⟩:=q1;subst e1
 obtain ⟨u1,u2,rfl,rv,rw'⟩:∃u1 u2,us=[u1,u2]/\RelV v u1/\RelV w u2:=by
  cases r1 with
  | cons p q =>
   cases q with
   | cons p' q' =>
    cases q';exact ⟨_,_,rfl,p,p'⟩
 refine wpAny_newObj_type ?_ (by show 2<=sizeLine;decide);have I2:Inv X pins σ H1 { s1 with heap:=s1.heap.push { cls:=.type "tuple",data:=.seq [u1,u2].toArray } }:=I1.kept (t':=s1.toks) λb o e=>Heap.get?_push_of_some _ e
 rw[hw];refine wpAny_bind (wpAny_pure ?_);show wpAny (model X.prog X.w) X.A (do rule "assign.swapped-stores";let items <- unpackItems (.ref s1.heap.objs.size) 2 none;assignInOrder [λv=>bindName X.env y v,λv=>bindName X.env x v] items.reverse;pure Flow.next) _ _ _
 refine wpAny_bind (wpAny_rule (wpAny_bind (unpackItems_tuple (items:=#[u1,u2]) (I.ok.hd hc) (IsTup.new s1.heap _) λh' hx'=>?_)));have I3:=I2.kept (h':=h') (t':=s1.toks) λb o e=>hx' b o (cG (Heap.lt_size e)) e
 show wpAny _ _ (assignInOrder [λv=>bindName X.env y v,λv=>bindName X.env x v] [u2,u1] >>= λ_=>pure Flow.next) _ _ _
 refine wpAny_bind (assignInOrder_cons (wpAny_bindName (sS I3 hN hj (.inl hy) rw' (λs2 I4=>?_) (.inr hy))));refine assignInOrder_cons (wpAny_bindName (sS I4 hN hi (.inl hx) rv (λs3 I5=>assignInOrder_nil (wpAny_pure ?_)) (.inr hx)));rw[List.set_comm _ _ (Ne.symm hij)] at I5;exact ⟨_,H1,I5,q1⟩
def Lk (to ti te:TE) (tget:V->V->Hp->VK->Prop) (tip:OL) (tset:EB):TS:=λD σ H=>to σ H λo H1=>ti σ H1 λi H2=>tget o i H2 λx H3=>te σ H3 λy H4=>tip x y H4 λz H5=>tset o i z H5 λH6=>D.nx σ H6
def ON (X:Cx) (t:V->V->Hp->VK->Prop):Prop :=
 ∀(pins:List (Addr×Obj)) (s:Shared) (σ:St) (H:Hp) (o i:V) (ov iv:Value) (Q:VK),Inv X pins σ H s->RelV o ov->RelV i iv->t o i H Q →
  wpAny (model X.prog X.w) X.A (getItem ov iv) (EP X pins σ Q) X.xe s
theorem Ku {o i e:Expr} {to ti te:TE} {tget:V->V->Hp->VK->Prop} {tip:OL} {tset:EB} {op:Operator} {tpos:Pos} (ho:PE X o to) (hi:PE X i ti) (hg:ON X tget) (he:PE X e te) (hp:PIp X op tip) (hs:Ni X tset)
  (ha:∀ov iv new,augStore i ov iv new=(do holding [new,ov,iv] (setItem ov iv new);release [new,ov,iv] [];pure .next):=by intros;rfl):PS X (.AugAssign (.Subscript o i tpos) op e pos) (Lk to ti te tget tip tset):=by
 intro pins s σ H D I h;refine wpAny_AugAssign_SubscriptAny (fz (ho pins s σ H _ I h) λov s1 ⟨x1,H1,I1,r1,q1⟩=>?_) ha;refine fz (hi pins s1 σ H1 _ I1 q1) λiv s2 ⟨x2,H2,I2,r2,q2⟩=>?_
 refine fz (hg pins s2 σ H2 x1 x2 ov iv _ I2 r1 r2 q2) λold s3 ⟨x3,H3,I3,r3,q3⟩=>?_
 refine fz (he pins s3 σ H3 _ I3 q3) λv s4 ⟨x4,H4,I4,r4,q4⟩=>?_
 refine fz (hp pins s4 σ H4 x3 x4 old v _ I4 r3 r4 q4) λnew s5 ⟨x5,H5,I5,r5,q5⟩=>?_
 exact fz (hs pins s5 σ H5 x1 x2 x5 ov iv new _ I5 r1 r2 r5 q5) λ_ s6 ⟨H6,I6,q6⟩=>⟨σ,H6,I6,q6⟩
def ipI (f:Int->Int->Int):OL:=λx y H Q=>∃i j,x=.int i/\y=.int j/\Q (.int (f i j)) H
theorem MY:PIp X .Add (ipI λi j=>i+j):=by
 intro pins s σ H x y v u Q I r1 r2 h;obtain ⟨i,j,e1,e2,q⟩:=h;subst e1;subst e2;obtain ⟨t,rfl⟩:=r1;obtain ⟨t',rfl⟩:=r2;exact iadd_int ⟨.int _,H,I.tok _,⟨_,rfl⟩,q⟩
end
section
variable {X:Cx} {pos:Pos}
def HD (c:TT) (tb:TS):TS:=λD σ H=>∃W:Nat->St->Hp->Prop,(∃m,W m σ H)/\∀m σ H,W m σ H →
 c σ H λb H1=>if b=true then ∃N:St->Hp->Prop,(∀σ' H',N σ' H'->∃m',m' < m/\W m' σ' H')/\tb { D with nx:=N,ct:=N,bk:=D.nx } σ H1 else D.nx σ H1
theorem yi (hp:PassesOwn (model X.prog X.w) X.A X.env X.xe) (hc:PT X c tc) (hb:EE X body tb):PS X (.While c body [] pos) (HD tc tb):=by
 intro pins s σ H D I h;obtain ⟨W,⟨m0,w0⟩,turn⟩:=h;refine wpAny_While (codeAny_whileLoop (λn s'=>∃σ' H',Inv X pins σ' H' s'/\W n σ' H') ?_ m0 ⟨σ,H,I,w0⟩);rintro n s1 ⟨σ1,H1,I1,w1⟩;refine wpAny_passesOwn hp (fz (hc pins s1 σ1 H1 _ I1 (turn n σ1 H1 w1)) λb s2 ⟨H2,I2,q2⟩=>?_);cases b with
 | true =>
  obtain ⟨N,hN,q2⟩:=q2;rw[if_pos rfl];refine wpAny_passesOwn hp (fz (hb pins s2 σ1 H2 _ I2 q2) λf s3 q3=>?_);cases f with
  | next =>
   obtain ⟨σ3,H3,I3,n3⟩:=q3;obtain ⟨m',hm,w3⟩:=hN σ3 H3 n3;exact ⟨m',hm,σ3,H3,I3,w3⟩
  | cont =>
   obtain ⟨σ3,H3,I3,n3⟩:=q3;obtain ⟨m',hm,w3⟩:=hN σ3 H3 n3;exact ⟨m',hm,σ3,H3,I3,w3⟩
  | brk=>exact q3
  | ret v=>exact q3
 | false =>
  rw[if_neg a9];exact wpAny_execs_nil ⟨σ1,H2,I2,q2⟩
end
structure It where
 go:Nat->Hp->Prop
 yld:Nat->Hp->V->Hp->Prop
 stop:Nat->Hp->Prop
def jg (X:Cx) (pins:List (Addr×Obj)) (H:Hp) (b:Addr):Prop :=
 H b=none/\b≠X.env.locals/\b∉X.fs/\(b∈X.ex\/X.s₀.heap.objs.size<=b)/\(∀x c,X.env.cells.lookup x=some c->c≠b)/\∀p∈X.pn++pins,p.1≠b
theorem Inv.fpOk {σ:St} {b:Addr} (I:Inv X pins σ H s) (hb:s.heap.objs.size<=b) (hn:H' b=none):jg X pins H' b:=by
 refine ⟨hn,FU (bE I.lt hb),I.nofs hb,.inr (ai I.sz hb),λx c e z=>?_,λp hp z=>?_⟩
 ·obtain ⟨v,q⟩:=I.cell x c e;exact absurd (bE q.lt (by rw[z];exact hb)) (dG _)
 ·exact absurd (bE (Heap.lt_size (I.pin p hp).1) (by rw[z];exact hb)) (dG _)
structure Turn (P:Program) (w:World) (K:FG9) (tg:Expr) (J:It) (fp:List Addr) (it:Addr) (tn:Nat->Heap->Prop):Prop where
 mem:it∈fp
 obj:∀i h,tn i h->∀b∈fp,∃o,h.get? b=some o/\∀v,o.data≠.cell v
 keep:∀i h h',tn i h->(∀b∈fp,∀o,h.get? b=some o->h'.get? b=some o)->tn i h'
 item:∀(X:Cx),X.prog=P->X.w=w->X.K=K->X.calm=true->∀(i:Nat) (pins:List (Addr×Obj)) (s:Shared) (σ:St) (H:Hp) (E:Value->Shared->Prop),Inv X pins σ H s->(∀b∈fp,jg X pins H b)->tn i s.heap->J.go i H →
  wpAny (model P w) X.A (pyNext (.ref it)) (λr s1=>∃u,r=some u /\
   wpAny (model P w) X.A (letOwnedTupleGo tg (.ref it) u) (λ_ s2=>∃x H',Inv X pins σ H' s2/\RelV x u/\J.yld i H x H'/\tn (i+1) s2.heap/\∀b∈fp,H' b=none) E s1) E s
 done:∀(X:Cx),X.prog=P->X.w=w->X.K=K->X.calm=true->∀(i:Nat) (pins:List (Addr×Obj)) (s:Shared) (σ:St) (H:Hp) (E:Value->Shared->Prop),Inv X pins σ H s->(∀b∈fp,jg X pins H b)->tn i s.heap->J.stop i H →
  wpAny (model P w) X.A (pyNext (.ref it)) (λr s1=>r=none/\Inv X pins σ H s1) E s
 self:∀(A:Around) (i:Nat) (s:Shared) (Q:Value->Shared->Prop) (E:Value->Shared->Prop),tn i s.heap->Q (.ref it) s->wpAny (model P w) A (pyIter (.ref it)) Q E s
abbrev TI:=St->Hp->(It->Hp->Prop)->Prop
def PIE (X:Cx) (pins:List (Addr×Obj)) (σ:St) (tg:Expr) (R:It->Hp->Prop) (itv:Value) (s2:Shared):Prop :=
 ∃(it:Addr) (fp:List Addr) (tn:Nat->Heap->Prop) (J:It) (H':Hp),itv=.ref it/\Inv X pins σ H' s2/\Turn X.prog X.w X.K tg J fp it tn/\tn 0 s2.heap/\(∀b∈fp,jg X pins H' b)/\R J H'
def PI (X:Cx) (tg iter:Expr) (wi:TI):Prop :=
 ∀(pins:List (Addr×Obj)) (s:Shared) (σ:St) (H:Hp) (R:It->Hp->Prop),Inv X pins σ H s->wi σ H R →
  wpAny (model X.prog X.w) X.A (eval iter X.env) (λv s1=>wpAny (model X.prog X.w) X.A (pyIter v) (PIE X pins σ tg R) X.xe s1) X.xe s
theorem IV (ho:s.heap.get? it=some o) (hc:o.cls=.type n) (hd:o.data=.fields vs)
  (hn:["enumerate","zip","dict_itemiterator","dict_reverseitemiterator","odict_iterator","itertools.zip_longest","itertools.pairwise"].contains n=false) (hQ:Q () s):wpAny M A (letOwnedTupleGo tg (.ref it) u) Q E s:=by
 unfold letOwnedTupleGo
 cases tg <;> first
  | exact wpAny_pure hQ
  | (cases u <;> first | exact wpAny_pure hQ | (refine wpAny_bind (wpAny_load ho ?_);rw[hc,hd];show wpAny M A (if (["enumerate","zip","dict_itemiterator","dict_reverseitemiterator","odict_iterator","itertools.zip_longest","itertools.pairwise"].contains n && vs[0]? == some (rawInt _))=true then _ else _) Q E s;rw[if_neg (by intro h;rw[hn,Bool.false_and] at h;cases h)];exact wpAny_pure hQ))
def K5 (K:FG9) (a:Addr):It :=
 ⟨λi H=>∃xs x,bO K H a xs/\xs[i]?=some x,λi H x H'=>H'=H/\∀xs,bO K H a xs->xs[i]?=some x,λi H=>∃xs,bO K H a xs/\xs.length<=i⟩
def Nz (K:FG9) (a:Addr):It :=
 ⟨λi H=>∃xs x,kD K H a xs/\xs[i]?=some x,λi H x H'=>H'=H/\∀xs,kD K H a xs->xs[i]?=some x,λi H=>∃xs,kD K H a xs/\xs.length<=i⟩
def DN (lo:Int) (n:Nat):It:=⟨λi _=>i < n,λi H x H'=>H'=H/\x=.int (lo+i),λi _=>n<=i⟩
theorem FY {P:Program} {w:World} {K:FG9} {tg:Expr} (a it:Addr):Turn P w K tg (K5 K a) [it] it (λi h=>h.IsListIter it a i) where
 mem:=by simp
 obj:=λi h st b hb=>by
  have e:b=it:=by simpa using hb
  subst e;obtain ⟨o,e,c,d⟩:=st;exact ⟨o,e,λv z=>by rw[d] at z;cases z⟩
 keep:=λi h h' st k=>st.at λo e=>k it (by simp) o e
 item:=by
  intro X hP hw hK hc i pins s σ H E I hf st hg;subst hP hw hK;obtain ⟨xs,x,hq,hx⟩:=hg;obtain ⟨its,rv,p,hz⟩:=I.list hq;obtain ⟨u,hu,ru⟩:=rv.get hx;obtain ⟨f0,f1,f2,f3,f4,f5⟩:=hf it (by simp);refine wpAny_pyNext_list_item st p.isList (x:=u) (by simpa using hu) λh' st' sb=>?_
  have I1:Inv X pins σ H { s with heap:=h' }:=I.turned (t':=s.toks) (λb o hb e=>(sb.2 b hb).trans e) f0 f1 f3 f4 f5;obtain ⟨o,e,c,d⟩:=id st';exact ⟨u,rfl,IV (s:={ s with heap:=h' }) e c d (by decide) ⟨x,H,I1,ru,⟨rfl,λys hy=>by rw[I.list_inj hy hq];exact hx⟩,st',λb hb=>(hf b hb).1⟩⟩
 done:=by
  intro X hP hw hK hc i pins s σ H E I hf st hg;subst hP hw hK;obtain ⟨xs,hq,hx⟩:=hg;obtain ⟨its,rv,p,hz⟩:=I.list hq;obtain ⟨f0,f1,f2,f3,f4,f5⟩:=hf it (by simp);have hl:=rv.length;exact wpAny_pyNext_list_end (I.ok.hd hc) st p.isList (by simp;lia) λh' eb=>⟨rfl,I.turned (t':=s.toks) (λb o hb e=>eb b o hb e) f0 f1 f3 f4 f5⟩
 self:=λ_ _ _ _ _ st h=>wpAny_pyIter_listiter st h
theorem DV {P:Program} {w:World} {K:FG9} {tg:Expr} (a it:Addr):Turn P w K tg (Nz K a) [it] it (λi h=>h.IsTupleIter it a i) where
 mem:=by simp
 obj:=λi h st b hb=>by
  have e:b=it:=by simpa using hb
  subst e;obtain ⟨o,e,c,d⟩:=st;exact ⟨o,e,λv z=>by rw[d] at z;cases z⟩
 keep:=λi h h' st k=>st.at λo e=>k it (by simp) o e
 item:=by
  intro X hP hw hK hc i pins s σ H E I hf st hg;subst hP hw hK;obtain ⟨xs,x,hq,hx⟩:=hg;obtain ⟨its,rv,p,hz⟩:=I.tuple hq;obtain ⟨u,hu,ru⟩:=rv.get hx;obtain ⟨f0,f1,f2,f3,f4,f5⟩:=hf it (by simp);refine wpAny_pyNext_tuple_item st (show s.heap.IsTuple a its.toArray from p) (x:=u) (by simpa using hu) λh' st' sb=>?_
  have I1:Inv X pins σ H { s with heap:=h' }:=I.turned (t':=s.toks) (λb o hb e=>(sb.2 b hb).trans e) f0 f1 f3 f4 f5;obtain ⟨o,e,c,d⟩:=id st';exact ⟨u,rfl,IV (s:={ s with heap:=h' }) e c d (by decide) ⟨x,H,I1,ru,⟨rfl,λys hy=>by rw[I.tuple_inj hy hq];exact hx⟩,st',λb hb=>(hf b hb).1⟩⟩
 done:=by
  intro X hP hw hK hc i pins s σ H E I hf st hg;subst hP hw hK;obtain ⟨xs,hq,hx⟩:=hg;obtain ⟨its,rv,p,hz⟩:=I.tuple hq;obtain ⟨f0,f1,f2,f3,f4,f5⟩:=hf it (by simp);have hl:=rv.length;exact wpAny_pyNext_tuple_end (I.ok.hd hc) st (show s.heap.IsTuple a its.toArray from p) (by simp;lia) λh' eb=>⟨rfl,I.turned (t':=s.toks) (λb o hb e=>eb b o hb e) f0 f1 f3 f4 f5⟩
 self:=λ_ _ _ _ _ st h=>wpAny_pyIter_tupleiter st h
theorem DW {P:Program} {w:World} {K:FG9} {tg:Expr} (it:Addr) (lo:Int) (n:Nat):Turn P w K tg (DN lo n) [it] it (λi h=>IsRangeIter h it (lo+(i:Nat)*1) ((n:Int) - (i:Nat)) 1) where
 mem:=by simp
 obj:=λi h st b hb=>by
  have e:b=it:=by simpa using hb
  subst e
  exact ⟨_,st,λv z=>by
   have z':Data.fields _=Data.cell v:=z;cases z'⟩
 keep:=λi h h' st k=>k it (by simp) _ st
 item:=by
  intro X hP hw hK hc i pins s σ H E I hf st hg;subst hP hw hK;obtain ⟨f0,f1,f2,f3,f4,f5⟩:=hf it (by simp);have W:=Walks.range (prog:=X.prog) (w:=X.w) (I.ok.hd hc) it lo 1 n;refine W.item i s _ _ hg st λv h' tk hv st' kk=>?_
  obtain ⟨t,rfl⟩:=hv;have I1:Inv X pins σ H { s with heap:=h',toks:=tk }:=I.turned (λb o hb e=>kk b o (by simpa using hb) e) f0 f1 f3 f4 f5;refine ⟨_,rfl,IV (s:={ s with heap:=h',toks:=tk }) (n:="range_iterator") st' rfl rfl (by decide) ⟨.int (lo+i),H,I1,⟨t,?_⟩,⟨rfl,rfl⟩,st',λb hb=>(hf b hb).1⟩⟩;rw[Int.mul_one]
 done:=by
  intro X hP hw hK hc i pins s σ H E I hf st hg;subst hP hw hK;obtain ⟨f0,f1,f2,f3,f4,f5⟩:=hf it (by simp);exact wpAny_pyNext_range_end (I.ok.hd hc) st (by have:n<=i:=hg;lia) λh' eb=>⟨rfl,I.turned (t':=s.toks) (λb o hb e=>eb b o hb e) f0 f1 f3 f4 f5⟩
 self:=λ_ _ _ _ _ st h=>wpAny_pyIter_rangeiter st h
section
variable {X:Cx} {tg:Expr}
def IT (K:FG9) (tl:TE):TI:=λσ H R=>tl σ H λx H1=>∃a,x=.ref a/\(∃xs,bO K H1 a xs)/\R (K5 K a) H1
def OB (K:FG9) (tl:TE):TI:=λσ H R=>tl σ H λx H1=>∃a,x=.ref a/\(∃xs,kD K H1 a xs)/\R (Nz K a) H1
theorem ck (hl:PE X l tl):PI X tg l (IT X.K tl):=by
 intro pins s σ H R I h;refine fz (hl pins s σ H _ I h) λv s1 ⟨x,H1,I1,r1,q1⟩=>?_
 obtain ⟨a,e,⟨xs,hq⟩,q⟩:=q1;subst e;cases r1;obtain ⟨its,rv,p,hz⟩:=I1.list hq;refine wpAny_pyIter_list p.isList ?_;refine ⟨s1.heap.objs.size,[s1.heap.objs.size],_,_,H1,rfl,I1.kept (t':=s1.toks) λb o e=>Heap.get?_push_of_some _ e,FY a _,⟨_,Heap.get?_push_size _ rfl,rfl,rfl⟩,λb hb=>?_,q⟩;have e:b=s1.heap.objs.size:=by simpa using hb
 subst e;exact I1.fpOk (ak _) (I1.hok.fresh (ak _))
theorem MH (hl:PE X l tl):PI X tg l (OB X.K tl):=by
 intro pins s σ H R I h;refine fz (hl pins s σ H _ I h) λv s1 ⟨x,H1,I1,r1,q1⟩=>?_
 obtain ⟨a,e,⟨xs,hq⟩,q⟩:=q1;subst e;cases r1;obtain ⟨its,rv,p,hz⟩:=I1.tuple hq;refine wpAny_pyIter_tuple (show s1.heap.IsTuple a its.toArray from p) ?_;refine ⟨s1.heap.objs.size,[s1.heap.objs.size],_,_,H1,rfl,I1.kept (t':=s1.toks) λb o e=>Heap.get?_push_of_some _ e,DV a _,⟨_,Heap.get?_push_size _ rfl,rfl,rfl⟩,λb hb=>?_,q⟩;have e:b=s1.heap.objs.size:=by simpa using hb
 subst e;exact I1.fpOk (ak _) (I1.hok.fresh (ak _))
theorem C7 {σ:St} {lo hi:Int} (I:Inv X pins σ H s) (h1:-(2^62)<=lo) (h2:lo < 2^62) (h3:-(2^62)<=hi) (h4:hi < 2^62)
  (q:R (DN lo (hi - lo).toNat) H):wpAny (model X.prog X.w) X.A (pyIter (.ref s.heap.objs.size)) (PIE X pins σ tg R) E { s with heap:=s.heap.push { cls:=.type "range",data:=.fields #[.int lo t,.int hi u,.int 1 v] },toks:=tk }:=by
 refine wpAny_pyIter_range (IsRange.new ..) (small_one h1 h2 h3 h4) ?_;have I1:Inv X pins σ H { s with heap:=s.heap.push { cls:=.type "range",data:=.fields #[.int lo t,.int hi u,.int 1 v] },toks:=tk }:=I.kept λb o e=>Heap.get?_push_of_some _ e
 refine ⟨(s.heap.push { cls:=.type "range",data:=.fields #[.int lo t,.int hi u,.int 1 v] }).objs.size,[(s.heap.push { cls:=.type "range",data:=.fields #[.int lo t,.int hi u,.int 1 v] }).objs.size],_,_,H,rfl,
  I1.kept (t':=tk) λb o e=>Heap.get?_push_of_some _ e,DW _ lo (hi - lo).toNat,?_,λb hb=>?_,q⟩
 ·have e1:lo+((0:Nat):Int)*1=lo:=by simp
  have e2:(((hi - lo).toNat:Nat):Int) - ((0:Nat):Int)=Builtin.Range.rangeSize lo hi 1:=by rw[rangeSize_one];split <;> lia
  show IsRangeIter _ _ (lo+((0:Nat):Int)*1) ((((hi - lo).toNat:Nat):Int) - ((0:Nat):Int)) 1
  rw[e1,e2];exact Heap.get?_push_size _ rfl
 ·have e:b=(s.heap.push { cls:=.type "range",data:=.fields #[.int lo t,.int hi u,.int 1 v] }).objs.size:=by simpa using hb
  subst e;exact I1.fpOk (ak _) (I1.hok.fresh (ak _))
def LC (ta:TA):TI:=λσ H R=>ta σ H λvs H1=>∃j:Int,vs=[.int j]/\-(2^62)<=j/\j < 2^62/\R (DN 0 j.toNat) H1
def LB (ta:TA):TI:=λσ H R=>ta σ H λvs H1=>∃i j:Int,vs=[.int i,.int j]/\(-(2^62)<=i/\i < 2^62/\-(2^62)<=j/\j < 2^62)/\R (DN i (j - i).toNat) H1
theorem b7 {a:Expr} {ta:TA} {p pos:Pos} (hg:Gl X "range") (hm:X.mg "range"=none) (ha:PA X [a] ta) (hs:starEach [a] X.env=[(false,eval a X.env)]:=by rfl):PI X tg (.Call (.Name "range" p) [a] [] pos) (LC ta):=by
 intro pins s σ H R I h;refine Call_ (jc I hg hm boot_range (PyProof.Rows.callWith_type1 (fz (ha pos pins s σ H _ I h) λus s1 ⟨vs,H1,I1,r1,q1⟩=>?_) hs rfl));obtain ⟨j,e,q1,q2,q⟩:=q1;subst e;cases r1 with
 | cons r rr =>
  cases rr;obtain ⟨t,rfl⟩:=r;exact call_range_1 (C7 I1 (by lia) (by lia) q1 q2 (by simpa using q))
theorem Gj {a b:Expr} {ta:TA} {p pos:Pos} (hg:Gl X "range") (hm:X.mg "range"=none) (ha:PA X [a,b] ta) (hs:starEach [a,b] X.env=[(false,eval a X.env),(false,eval b X.env)]:=by rfl) (hs2:starEach [b] X.env=[(false,eval b X.env)]:=by rfl) :
  PI X tg (.Call (.Name "range" p) [a,b] [] pos) (LB ta):=by
 intro pins s σ H R I h;refine Call_ (jc I hg hm boot_range (PyProof.Rows.callWith_type1 (fz (ha pos pins s σ H _ I h) λus s1 ⟨vs,H1,I1,r1,q1⟩=>?_) (by rw[hs,hs2]) (by rw[hs2];rfl)));obtain ⟨i,j,e,⟨q1,q2,q3,q4⟩,q⟩:=q1;subst e;cases r1 with
 | cons r rr =>
  cases rr with
  | cons r' rr =>
   cases rr;obtain ⟨t,rfl⟩:=r;obtain ⟨t',rfl⟩:=r';exact call_range_2 (C7 I1 q1 q2 q3 q4 q)
def NR (wi:TI) (g:TG) (tb:TS):TS:=λD σ H=>wi σ H λJ H1=>∃W:Nat->Nat->St->Hp->Prop,(∃m,W 0 m σ H1)/\∀i m σ H,W i m σ H →
 (J.stop i H/\D.nx σ H)\/(J.go i H/\∃N:St->Hp->Prop,(∀σ' H',N σ' H'->∃m',m' < m/\W (i+1) m' σ' H')/\∀x H',J.yld i H x H'->g x σ H' λσ2 H2=>tb { D with nx:=N,ct:=N,bk:=D.nx } σ2 H2)
def ym (fp:List Addr) (h:Heap):List (Addr×Obj):=fp.filterMap λb=>(h.get? b).map λo=>(b,o)
theorem oh (hb:b∈fp) (e:h.get? b=some o):(b,o)∈ym fp h:=List.mem_filterMap.mpr ⟨b,hb,by rw[e];rfl⟩
theorem Gu (hp:p∈ym fp h):p.1∈fp/\h.get? p.1=some p.2:=by
 obtain ⟨b,hb,e⟩:=List.mem_filterMap.mp hp;cases q:h.get? b with
 | none=>rw[q] at e;cases e
 | some o =>
  rw[q] at e;have e':(b,o)=p:=cf e;subst e';exact ⟨hb,q⟩
theorem Inv.pinned {σ:St} (I:Inv X pins σ H s) (hf:∀b∈fp,jg X pins H b) (ho:∀b∈fp,∃o,s.heap.get? b=some o/\∀v,o.data≠.cell v):Inv X (pins++ym fp s.heap) σ H s :=
 I.pins_of λp hp=>(au.mp hp).elim (λz=>I.pin p (bV _ z)) λz=>by
  obtain ⟨hb,e⟩:=Gu z;obtain ⟨f0,f1,f2,_⟩:=hf p.1 hb;obtain ⟨o,e',d⟩:=ho p.1 hb;rw[e] at e';cases e';exact ⟨e,f0,f1,f2,d⟩
theorem Inv.unpinned {σ:St} (I:Inv X (pins++pl) σ H s):Inv X pins σ H s:=I.pins_of λp hp=>I.pin p (bV _ (oK _ hp))
theorem eE {iter:Expr} {body:List Stmt} {wi:TI} {g:TG} {tb:TS} {pos:Pos} (hp:PassesOwn (model X.prog X.w) X.A X.env X.xe) (hc:X.calm=true) (hi:PI X tg iter wi) (hg:PG X tg g) (hb:EE X body tb)
  (hs:∀x,foldedSetIterable iter X.env x=pure x:=by intro _;rfl):PS X (.For tg iter body [] pos) (NR wi g tb):=by
 intro pins s σ H D I h;refine wpAny_For (fz (hi pins s σ H _ I h) λv s1 h1=>fz h1 λitv s2 h2=>?_) hs;obtain ⟨it,fp,tn,J,H2,e,I2,T,st2,f2,W,⟨m0,w0⟩,turn⟩:=h2;subst e;have stat:∀{H':Hp},(∀b∈fp,H' b=none)->∀b∈fp,jg X pins H' b:=λhn b hb=>⟨hn b hb,(f2 b hb).2⟩
 refine codeAny_forLoop_any (λn s'=>∃i σ' H',Inv X pins σ' H' s'/\tn i s'.heap/\(∀b∈fp,H' b=none)/\W i n σ' H') ?_ m0 ⟨0,σ,H2,I2,st2,λb hb=>(f2 b hb).1,w0⟩;rintro n s3 ⟨i,σ3,H3,I3,st3,fr3,w3⟩;rcases turn i n σ3 H3 w3 with ⟨stop,qn⟩ | ⟨go,N,hN,step⟩
 ·refine wpAny_passesOwn hp (fz (T.done X rfl rfl rfl hc i pins s3 σ3 H3 X.xe I3 (stat fr3) st3 stop) λr s4 ⟨hr,I4⟩=>?_);subst hr;exact wpAny_execs_nil ⟨σ3,H3,I4,qn⟩
 ·refine wpAny_passesOwn hp (fz (T.item X rfl rfl rfl hc i pins s3 σ3 H3 X.xe I3 (stat fr3) st3 go) λr s4 ⟨u,hr,h4⟩=>?_);subst hr;refine wpAny_passesOwn hp (fz h4 λ_ s5 ⟨x,H5,I5,r5,y5,st5,fr5⟩=>?_);have I5':=I5.pinned (stat fr5) (T.obj _ _ st5);refine wpAny_passesOwn hp (fz (hg _ s5 σ3 H5 x u _ I5' r5 (step x H5 y5)) λ_ s6 ⟨σ6,H6,I6,q6⟩=>?_);refine wpAny_passesOwn hp (fz (hb _ s6 σ6 H6 _ I6 q6) λf s7 q7=>?_)
  have again:∀{σ7:St} {H7:Hp},Inv X (pins++ym fp s5.heap) σ7 H7 s7->N σ7 H7->∃m,m < n/\∃i σ' H',Inv X pins σ' H' s7/\tn i s7.heap/\(∀b∈fp,H' b=none)/\W i m σ' H':=λ{σ7 H7} I7 n7=>by
   obtain ⟨m',hm,w7⟩:=hN σ7 H7 n7;refine ⟨m',hm,i+1,σ7,H7,I7.unpinned,T.keep _ _ _ st5 λb hb o e=>(I7.pin (b,o) (bV _ (bV _ (oh hb e)))).1,λb hb=>?_,w7⟩;obtain ⟨o,e,d⟩:=T.obj _ _ st5 b hb;exact (I7.pin (b,o) (bV _ (bV _ (oh hb e)))).2.1
  cases f with
  | next=>obtain ⟨σ7,H7,I7,n7⟩:=q7;exact again I7 n7
  | cont=>obtain ⟨σ7,H7,I7,n7⟩:=q7;exact again I7 n7
  | brk=>obtain ⟨σ7,H7,I7,q7⟩:=q7;exact ⟨σ7,H7,I7.unpinned,q7⟩
  | ret v=>obtain ⟨x7,σ7,H7,I7,r7,q7⟩:=q7;exact ⟨x7,σ7,H7,I7.unpinned,r7,q7⟩
end
theorem jD {K:FG9} {g:TG} {tb:TS} {D:Ends} (Pv:Nat->St->Hp->Prop) (h0:Pv 0 σ H) (hl:∀i σ H,i<=xs.length->Pv i σ H->bO K H a xs)
  (hs:∀i x σ H,xs[i]?=some x->Pv i σ H->g x σ H λσ2 H2=>tb { D with nx:=Pv (i+1),ct:=Pv (i+1),bk:=D.nx } σ2 H2) (hd:∀σ H,Pv xs.length σ H->D.nx σ H) :
  ∃W:Nat->Nat->St->Hp->Prop,(∃m,W 0 m σ H)/\∀i m σ H,W i m σ H →
   ((K5 K a).stop i H/\D.nx σ H)\/((K5 K a).go i H/\∃N:St->Hp->Prop,(∀σ' H',N σ' H'->∃m',m' < m/\W (i+1) m' σ' H')/\∀x H',(K5 K a).yld i H x H'->g x σ H' λσ2 H2=>tb { D with nx:=N,ct:=N,bk:=D.nx } σ2 H2):=by
 refine ⟨λi m σ H=>m=xs.length - i/\i<=xs.length/\Pv i σ H,⟨xs.length,by simp,bu _,h0⟩,?_⟩;rintro i m σ H ⟨rfl,hi,p⟩;have q:=hl i σ H hi p;by_cases hlt:i < xs.length
 ·refine .inr ⟨⟨xs,xs[i],q,by simp [hlt]⟩,Pv (i+1),λσ' H' p'=>⟨xs.length - (i+1),by lia,rfl,hlt,p'⟩,λx H' y=>?_⟩;obtain ⟨e,y⟩:=y;subst e;exact hs i x σ _ (y xs q) p
 ·have e:i=xs.length:=by lia
  subst e;exact .inl ⟨⟨xs,q,ak _⟩,hd σ H p⟩
theorem KL {K:FG9} {g:TG} {tb:TS} {D:Ends} (Pv:Nat->St->Hp->Prop) (h0:Pv 0 σ H) (hl:∀i σ H,i<=xs.length->Pv i σ H->kD K H a xs)
  (hs:∀i x σ H,xs[i]?=some x->Pv i σ H->g x σ H λσ2 H2=>tb { D with nx:=Pv (i+1),ct:=Pv (i+1),bk:=D.nx } σ2 H2) (hd:∀σ H,Pv xs.length σ H->D.nx σ H) :
  ∃W:Nat->Nat->St->Hp->Prop,(∃m,W 0 m σ H)/\∀i m σ H,W i m σ H →
   ((Nz K a).stop i H/\D.nx σ H)\/((Nz K a).go i H/\∃N:St->Hp->Prop,(∀σ' H',N σ' H'->∃m',m' < m/\W (i+1) m' σ' H')/\∀x H',(Nz K a).yld i H x H'->g x σ H' λσ2 H2=>tb { D with nx:=N,ct:=N,bk:=D.nx } σ2 H2):=by
 refine ⟨λi m σ H=>m=xs.length - i/\i<=xs.length/\Pv i σ H,⟨xs.length,by simp,bu _,h0⟩,?_⟩;rintro i m σ H ⟨rfl,hi,p⟩;have q:=hl i σ H hi p;by_cases hlt:i < xs.length
 ·refine .inr ⟨⟨xs,xs[i],q,by simp [hlt]⟩,Pv (i+1),λσ' H' p'=>⟨xs.length - (i+1),by lia,rfl,hlt,p'⟩,λx H' y=>?_⟩;obtain ⟨e,y⟩:=y;subst e;exact hs i x σ _ (y xs q) p
 ·have e:i=xs.length:=by lia
  subst e;exact .inl ⟨⟨xs,q,ak _⟩,hd σ H p⟩
theorem Am {lo:Int} {g:TG} {tb:TS} {D:Ends} (Pv:Nat->St->Hp->Prop) (h0:Pv 0 σ H)
  (hs:∀i σ H,i < n->Pv i σ H->g (.int (lo+i)) σ H λσ2 H2=>tb { D with nx:=Pv (i+1),ct:=Pv (i+1),bk:=D.nx } σ2 H2) (hd:∀σ H,Pv n σ H->D.nx σ H) :
  ∃W:Nat->Nat->St->Hp->Prop,(∃m,W 0 m σ H)/\∀i m σ H,W i m σ H →
   ((DN lo n).stop i H/\D.nx σ H)\/((DN lo n).go i H/\∃N:St->Hp->Prop,(∀σ' H',N σ' H'->∃m',m' < m/\W (i+1) m' σ' H')/\∀x H',(DN lo n).yld i H x H'->g x σ H' λσ2 H2=>tb { D with nx:=N,ct:=N,bk:=D.nx } σ2 H2):=by
 refine ⟨λi m σ H=>m=n - i/\i<=n/\Pv i σ H,⟨n,by simp,bu _,h0⟩,?_⟩;rintro i m σ H ⟨rfl,hi,p⟩;by_cases hlt:i < n
 ·refine .inr ⟨hlt,Pv (i+1),λσ' H' p'=>⟨n - (i+1),by lia,rfl,hlt,p'⟩,λx H' y=>?_⟩;obtain ⟨e,y⟩:=y;subst e y;exact hs i σ _ hlt p
 ·have e:i=n:=by lia
  subst e;exact .inl ⟨ak _,hd σ H p⟩
abbrev R2:=V->V->Hp->VK->Prop
def vK (X:Cx) (f:Value->Value->Sem Value) (r:R2):Prop :=
 ∀(pins:List (Addr×Obj)) (s:Shared) (σ:St) (H:Hp) (x y:V) (v u:Value) (Q:VK),Inv X pins σ H s->RelV x v->RelV y u->r x y H Q →
  wpAny (model X.prog X.w) X.A (f v u) (EP X pins σ Q) X.xe s
def Po (X:Cx) (f:Value->Sem Value) (r:V->Hp->VK->Prop):Prop :=
 ∀(pins:List (Addr×Obj)) (s:Shared) (σ:St) (H:Hp) (x:V) (v:Value) (Q:VK),Inv X pins σ H s->RelV x v->r x H Q →
  wpAny (model X.prog X.w) X.A (f v) (EP X pins σ Q) X.xe s
def p5 (X:Cx) (f:Value) (r:List V->Hp->VK->Prop):Prop :=
 ∀(pins:List (Addr×Obj)) (s:Shared) (σ:St) (H:Hp) (xs:List V) (us:List Value) (Q:VK),Inv X pins σ H s->cC xs us->r xs H Q →
  wpAny (model X.prog X.w) X.A (call f us) (EP X pins σ Q) X.xe s
def NM (r:R2) (ta tb:TE):TE:=λσ H Q=>ta σ H λx H1=>tb σ H1 λy H2=>r x y H2 Q
def OX (r:V->Hp->VK->Prop) (ta:TE):TE:=λσ H Q=>ta σ H λx H1=>r x H1 Q
def rI (C:Int->Int->Prop) (g:Int->Int->V):R2:=λx y H Q=>∃i j,x=.int i/\y=.int j/\C i j/\Q (g i j) H
def Kt (g:Int->Int->V):R2:=λx y H Q=>∃i j,x=.int i/\y=.int j/\Q (g i j) H
def rU (g:Int->V):V->Hp->VK->Prop:=λx H Q=>∃i,x=.int i/\Q (g i) H
section
variable {X:Cx} {a b c:Expr} {ta tb tc:TE} {pos:Pos}
theorem Nf (ha:PE X a ta) (hb:PE X b tb) {σ:St} {R:V->V->Hp->Prop} (I:Inv X pins σ H s)
  (h:ta σ H λx H1=>tb σ H1 λy H2=>R x y H2) {f:Value->Value->Sem Value}
  (hf:∀v u s2 x y H2,Inv X pins σ H2 s2->RelV x v->RelV y u->R x y H2->wpAny (model X.prog X.w) X.A (f v u) Q X.xe s2) :
  wpAny (model X.prog X.w) X.A (eval a X.env) (λv s₁=>wpAny (model X.prog X.w) X.A (eval b X.env) (λu s₂=>wpAny (model X.prog X.w) X.A (f v u) Q X.xe s₂) X.xe s₁) X.xe s:=by
 refine fz (ha pins s σ H _ I h) λv s1 ⟨x,H1,I1,r1,q1⟩=>?_
 refine fz (hb pins s1 σ H1 _ I1 q1) λu s2 ⟨y,H2,I2,r2,q2⟩=>?_
 exact hf v u s2 x y H2 I2 r1 r2 q2
theorem bI (ho:vK X (binaryOp op) r) (ha:PE X a ta) (hb:PE X b tb):PE X (.BinOp a op b pos) (NM r ta tb):=by
 intro pins s σ H Q I h;exact wpAny_BinOp (Nf ha hb I h λv u s2 x y H2 I2 rx ry q=>ho pins s2 σ H2 x y v u Q I2 rx ry q)
theorem yp (ho:Po X (unaryOp op) r) (ha:PE X a ta):PE X (.UnaryOp op a pos) (OX r ta):=by
 intro pins s σ H Q I h;exact UnaryOp_ (fz (ha pins s σ H _ I h) λv s1 ⟨x,H1,I1,r1,q1⟩=>ho pins s1 σ H1 x v Q I1 r1 q1)
theorem OY {g:Int->Int->Int}
  (rule:∀(i j:Int) (t u:Tok) (s:Shared) (Q:Value->Shared->Prop) (E:Value->Shared->Prop),C i j->Q (.int (g i j) s.toks) { s with toks:=s.toks+1 }->wpAny (model X.prog X.w) X.A (f (.int i t) (.int j u)) Q E s) :
  vK X f (rI C λi j=>.int (g i j)):=by
 intro pins s σ H x y v u Q I rx ry h;obtain ⟨i,j,rfl,rfl,hc,q⟩:=h;obtain ⟨t,rfl⟩:=rx;obtain ⟨t',rfl⟩:=ry;exact rule i j t t' s _ _ hc ⟨.int (g i j),H,I.tok _,⟨_,rfl⟩,q⟩
theorem Ou {g:Int->Int->Int}
  (rule:∀(i j:Int) (t u:Tok) (s:Shared) (Q:Value->Shared->Prop) (E:Value->Shared->Prop),Q (.int (g i j) s.toks) { s with toks:=s.toks+1 }->wpAny (model X.prog X.w) X.A (f (.int i t) (.int j u)) Q E s) :
  vK X f (Kt λi j=>.int (g i j)):=by
 intro pins s σ H x y v u Q I rx ry h;obtain ⟨i,j,rfl,rfl,q⟩:=h;obtain ⟨t,rfl⟩:=rx;obtain ⟨t',rfl⟩:=ry;exact rule i j t t' s _ _ ⟨.int (g i j),H,I.tok _,⟨_,rfl⟩,q⟩
theorem KC {g:Int->Int->Bool}
  (rule:∀(i j:Int) (t u:Tok) (s:Shared) (Q:Value->Shared->Prop) (E:Value->Shared->Prop),Q (.bool (g i j)) s->wpAny (model X.prog X.w) X.A (f (.int i t) (.int j u)) Q E s) :
  vK X f (Kt λi j=>.bl (g i j)):=by
 intro pins s σ H x y v u Q I rx ry h;obtain ⟨i,j,rfl,rfl,q⟩:=h;obtain ⟨t,rfl⟩:=rx;obtain ⟨t',rfl⟩:=ry;exact rule i j t t' s _ _ ⟨.bl (g i j),H,I,rfl,q⟩
def Nr (i j:Int):Prop:=(-(2^64) < i/\i < 2^64)\/(-(2^64) < j/\j < 2^64)
theorem Nr.ok (h:Nr i j):IntMulOk i j:=by
 rcases h with ⟨h1,h2⟩ | ⟨h1,h2⟩
 ·exact .of_left (intBits_le_64 h1 h2)
 ·exact .of_right (intBits_le_64 h1 h2)
theorem fM:vK X (binaryOp .Add) (Kt λi j=>.int (i+j)):=Ou λ_ _ _ _ _ _ _ q=>add_int q
theorem gM:vK X (binaryOp .Sub) (Kt λi j=>.int (i - j)):=Ou λ_ _ _ _ _ _ _ q=>sub_int q
theorem l7:vK X (binaryOp .Mod) (rI (λ_ j=>0 < j) λi j=>.int (i % j)):=OY λi j _ _ _ _ _ hc q=>by
 have h1:(0:Int) < j:=hc;exact mod_int' (by lia) (by rw[Int.fmod_eq_emod_of_nonneg i (by lia)];exact q)
theorem KA:vK X (binaryOp .Mod) (rI (λ_ j=>j≠0) λi j=>.int (i.fmod j)):=OY λ_ _ _ _ _ _ _ hc q=>mod_int' hc q
theorem unI {g:Int->Int}
  (rule:∀(i:Int) (t:Tok) (s:Shared) (Q:Value->Shared->Prop) (E:Value->Shared->Prop),Q (.int (g i) s.toks) { s with toks:=s.toks+1 }->wpAny (model X.prog X.w) X.A (f (.int i t)) Q E s) :
  Po X f (rU λi=>.int (g i)):=by
 intro pins s σ H x v Q I rx h;obtain ⟨i,rfl,q⟩:=h;obtain ⟨t,rfl⟩:=rx;exact rule i t s _ _ ⟨.int (g i),H,I.tok _,⟨_,rfl⟩,q⟩
theorem rF:Po X (unaryOp .USub) (rU λi=>.int (-i)):=unI λ_ _ _ _ _ q=>neg_int q
end
def N6:V->V->Bool
 | .non,.non=>true | .non,.int _=>true | .int _,.non=>true | .non,.bl _=>true | .bl _,.non=>true | .non,.str _=>true | .str _,.non=>true
 | .int _,.int _=>true | .bl _,.bl _=>true | .str _,.str _=>true | .byt _,.byt _=>true
 | .int _,.str _=>true | .str _,.int _=>true | .bl _,.str _=>true | .str _,.bl _=>true
 | _,_=>false
def rEq:R2:=λx y H Q=>N6 x y=true/\Q (.bl (decide (x=y))) H
def rNe:R2:=λx y H Q=>N6 x y=true/\Q (.bl (!decide (x=y))) H
theorem FD:decide (V.int i=V.int j)=(i == j):=by
 rw[j8];simp
theorem Jn:decide (V.bl i=V.bl j)=(i == j):=by
 rw[j8];simp
theorem FC:decide (V.str i=V.str j)=(i == j):=by
 rw[j8];simp
theorem FE:decide (V.byt i=V.byt j)=(i.toList == j.toList):=by
 rw[j8];cases i;cases j;simp
section
variable {X:Cx} {a b c:Expr} {ta tb tc:TE} {pos:Pos}
theorem cY {σ:St} (I:Inv X pins σ H s) (q:Q (.bl k) H) (e:k=k'):EP X pins σ Q (.bool k') s:=by
 subst e;exact ⟨.bl k,H,I,rfl,q⟩
theorem eY:vK X (compareOp .Eq) rEq:=by
 intro pins s σ H x y v u Q I rx ry h;obtain ⟨hs,q⟩:=h;cases x with
 | non =>
  cases rx;cases y with
  | non=>cases ry;exact PySem.EqNone.eq_none_none (cY I q (by simp))
  | bl j=>cases ry;exact PySem.EqNone.eq_none_bool (cY I q (by simp))
  | int j=>obtain ⟨t',rfl⟩:=ry;exact PySem.EqNone.eq_none_int (cY I q (by simp))
  | str j=>obtain ⟨t',rfl⟩:=ry;exact PySem.EqNone.eq_none_str (cY I q (by simp))
  | _=>exact absurd (show false=true from hs) a9
 | bl i =>
  cases rx;cases y with
  | non=>cases ry;exact PySem.EqNone.eq_bool_none (cY I q (by simp))
  | bl j=>cases ry;exact eq_bool (cY I q Jn)
  | str j=>obtain ⟨t',rfl⟩:=ry;exact PySem.EqMixed.eq_bool_str (cY I q (by simp))
  | _=>exact absurd (show false=true from hs) a9
 | int i =>
  obtain ⟨t,rfl⟩:=rx;cases y with
  | non=>cases ry;exact PySem.EqNone.eq_int_none (cY I q (by simp))
  | int j=>obtain ⟨t',rfl⟩:=ry;exact eq_int (cY I q FD)
  | str j=>obtain ⟨t',rfl⟩:=ry;exact PySem.EqMixed.eq_int_str (cY I q (by simp))
  | _=>exact absurd (show false=true from hs) a9
 | str i =>
  obtain ⟨t,rfl⟩:=rx;cases y with
  | non=>cases ry;exact PySem.EqNone.eq_str_none (cY I q (by simp))
  | bl j=>cases ry;exact PySem.EqMixed.eq_str_bool (cY I q (by simp))
  | int j=>obtain ⟨t',rfl⟩:=ry;exact PySem.EqMixed.eq_str_int (cY I q (by simp))
  | str j=>obtain ⟨t',rfl⟩:=ry;exact eq_str (cY I q FC)
  | _=>exact absurd (show false=true from hs) a9
 | byt i =>
  obtain ⟨t,rfl⟩:=rx;cases y with
  | byt j=>obtain ⟨t',rfl⟩:=ry;exact PySem.W.eq_bytes (cY I q FE)
  | _=>exact absurd (show false=true from hs) a9
 | _=>cases y <;> exact absurd (show false=true from hs) a9
theorem tD:vK X (compareOp .NotEq) rNe:=by
 intro pins s σ H x y v u Q I rx ry h;obtain ⟨hs,q⟩:=h;cases x with
 | non =>
  cases rx;cases y with
  | non=>cases ry;exact PySem.EqNone.ne_none_none (cY I q (by simp))
  | bl j=>cases ry;exact PySem.EqNone.ne_none_bool (cY I q (by simp))
  | int j=>obtain ⟨t',rfl⟩:=ry;exact PySem.EqNone.ne_none_int (cY I q (by simp))
  | str j=>obtain ⟨t',rfl⟩:=ry;exact PySem.EqNone.ne_none_str (cY I q (by simp))
  | _=>exact absurd (show false=true from hs) a9
 | bl i =>
  cases rx;cases y with
  | non=>cases ry;exact PySem.EqNone.ne_bool_none (cY I q (by simp))
  | bl j=>cases ry;exact ne_bool (cY I q (congrArg not Jn))
  | str j=>obtain ⟨t',rfl⟩:=ry;exact PySem.EqMixed.ne_bool_str (cY I q (by simp))
  | _=>exact absurd (show false=true from hs) a9
 | int i =>
  obtain ⟨t,rfl⟩:=rx;cases y with
  | non=>cases ry;exact PySem.EqNone.ne_int_none (cY I q (by simp))
  | int j=>obtain ⟨t',rfl⟩:=ry;exact ne_int (cY I q (congrArg not FD))
  | str j=>obtain ⟨t',rfl⟩:=ry;exact PySem.EqMixed.ne_int_str (cY I q (by simp))
  | _=>exact absurd (show false=true from hs) a9
 | str i =>
  obtain ⟨t,rfl⟩:=rx;cases y with
  | non=>cases ry;exact PySem.EqNone.ne_str_none (cY I q (by simp))
  | bl j=>cases ry;exact PySem.EqMixed.ne_str_bool (cY I q (by simp))
  | int j=>obtain ⟨t',rfl⟩:=ry;exact PySem.EqMixed.ne_str_int (cY I q (by simp))
  | str j=>obtain ⟨t',rfl⟩:=ry;exact ne_str (cY I q (congrArg not FC))
  | _=>exact absurd (show false=true from hs) a9
 | byt i =>
  obtain ⟨t,rfl⟩:=rx;cases y with
  | byt j=>obtain ⟨t',rfl⟩:=ry;exact PySem.W.ne_bytes (cY I q (congrArg not FE))
  | _=>exact absurd (show false=true from hs) a9
 | _=>cases y <;> exact absurd (show false=true from hs) a9
theorem qC:vK X (compareOp .Lt) (Kt λi j=>.bl (decide (i < j))):=KC λ_ _ _ _ _ _ _ q=>lt_int q
theorem Ot:vK X (compareOp .LtE) (Kt λi j=>.bl (decide (i<=j))):=KC λ_ _ _ _ _ _ _ q=>le_int q
theorem yu:vK X (compareOp .Gt) (Kt λi j=>.bl (decide (j < i))):=KC λ_ _ _ _ _ _ _ q=>gt_int q
theorem Ae:vK X (compareOp .GtE) (Kt λi j=>.bl (decide (j<=i))):=KC λ_ _ _ _ _ _ _ q=>ge_int q
theorem ML:vK X (compareOp .Is) (λx y H Q=>y=.non/\Q (.bl (decide (x=.non))) H):=by
 intro pins s σ H x y v u Q I rx ry h;obtain ⟨rfl,q⟩:=h;cases ry;refine is_none_gen (cY I q ?_)
 cases x <;> first
  | (cases rx;rfl)
  | (obtain ⟨t,rfl⟩:=rx;rfl)
theorem Kz:vK X (compareOp .IsNot) (λx y H Q=>y=.non/\Q (.bl (!decide (x=.non))) H):=by
 intro pins s σ H x y v u Q I rx ry h;obtain ⟨rfl,q⟩:=h;cases ry;refine isnot_none_gen (cY I q ?_)
 cases x <;> first
  | (cases rx;rfl)
  | (obtain ⟨t,rfl⟩:=rx;rfl)
theorem bH (b:Expr) {op:CmpOp} (h:op≠.In:=by decide) (h2:op≠.NotIn:=by decide):behindInMarks op b=false:=by
 have e1:(op == CmpOp.In)=false:=by cases op <;> first | rfl | exact absurd rfl h
 have e2:(op == CmpOp.NotIn)=false:=by cases op <;> first | rfl | exact absurd rfl h2
 cases b <;> simp [behindInMarks,e1,e2]
theorem gG (ho:vK X (compareOp op) r) (ha:PE X a ta) (hb:PE X b tb) (hm:behindInMarks op b=false):PE X (.Compare a [op] [b] pos) (NM r ta tb):=by
 intro pins s σ H Q I h;exact wpAny_Compare1 (Nf ha hb I h λv u s2 x y H2 I2 rx ry q=>ho pins s2 σ H2 x y v u Q I2 rx ry q) hm
def Lb (t:TE):TT:=λσ H Q=>t σ H λx H'=>∃k,x=.bl k/\Q k H'
theorem bA (ho:vK X (compareOp op) r) (ha:PE X a ta) (hb:PE X b tb) (hm:behindInMarks op b=false):PT X (.Compare a [op] [b] pos) (Lb (NM r ta tb)):=by
 intro pins s σ H Q I h
 refine wpAny_isTrue_Compare1 (fz (ha pins s σ H _ I h) λv s1 ⟨x,H1,I1,r1,q1⟩=>fz (hb pins s1 σ H1 _ I1 q1) λu s2 ⟨y,H2,I2,r2,q2⟩ =>
  fz (ho pins s2 σ H2 x y v u _ I2 r1 r2 q2) λc s3 ⟨z,H3,I3,r3,k,e,q3⟩=>?_) hm
 subst e;cases r3;exact wpAny_truthy_bool ⟨H3,I3,q3⟩
theorem yL:(sizeLine:Nat) < 2^63:=by rw[sizeLine_eq];decide
theorem vals1 (r:cC [x] us):∃u,us=[u]/\RelV x u:=by
 cases r with
 | cons r1 r2=>cases r2;exact ⟨_,rfl,r1⟩
theorem vals2 (r:cC [x,y] us):∃u w',us=[u,w']/\RelV x u/\RelV y w':=by
 cases r with
 | cons r1 r2 =>
  cases r2 with
  | cons r3 r4=>cases r4;exact ⟨_,_,rfl,r1,r3⟩
theorem y9:p5 X (.builtin "abs") (λxs H Q=>∃i,xs=[.int i]/\Q (.int (if i < 0 then -i else i)) H):=by
 intro pins s σ H xs us Q I r h;obtain ⟨i,rfl,q⟩:=h;obtain ⟨u,rfl,t,rfl⟩:=vals1 r;exact call_abs_int λu tk=>⟨.int (if i < 0 then -i else i),H,I.tok _,⟨_,rfl⟩,q⟩
theorem qg (hc:X.calm=true):p5 X (.builtin "min") (λxs H Q=>∃i j,xs=[.int i,.int j]/\Q (.int (if j < i then j else i)) H):=by
 intro pins s σ H xs us Q I r h;obtain ⟨i,j,rfl,q⟩:=h;obtain ⟨u,w',rfl,⟨t,rfl⟩,⟨t',rfl⟩⟩:=vals2 r;refine min_two_ints (I.ok.hd hc) λh' tk k=>⟨_,H,I.kept k,?_,q⟩
 by_cases hj:j < i
 ·rw[if_pos hj,if_pos hj];exact ⟨_,rfl⟩
 ·rw[if_neg hj,if_neg hj];exact ⟨_,rfl⟩
end
structure EF (h:Heap) (x dx C:Addr) (mA:Str->Option Value):Prop where
 obj:h.get? x=some (PySem.W.instObj C dx)
 ns:h.Ns1 dx mA
 ne:dx≠x
theorem Gz {h:Heap} (n:h.Ns1 dx mA):∃od,h.get? dx=some od/\∀name,PySem.W.lookIn name od=some (mA name):=by
 obtain ⟨o,es,ep,ho,hd,hk,_,hm⟩:=n;refine ⟨o,ho,λname=>?_⟩;have e:=hm name;unfold nsFind findBy at e;rw[<- Array.find?_toList] at e;unfold PySem.W.lookIn;rw[hd]
 dsimp only
 split
 ·rename_i y q
  rw[q] at e;exact congrArg some e
 ·rename_i q
  rw[q] at e
  have a:es.toList.any (·.refKey)=false:=by
   rw[List.any_eq_false];intro y hy;obtain ⟨z,t,hkey⟩:=hk y (Array.mem_toList_iff.mp hy);simp [DictEntry.refKey,hkey]
  have a':¬es.toList.any (·.refKey)=true:=by rw[a];exact a9
  rw[if_neg a'];exact congrArg some e
theorem EF.look (I:EF h x dx C mA):∃od,PySem.W.InstAt h x (PySem.W.instObj C dx) C (some od)/\∀name,PySem.W.lookIn name od=some (mA name) :=
 let ⟨od,ho,hl⟩:=Gz I.ns
 ⟨od,⟨I.obj,rfl,rfl,ho⟩,hl⟩
section
variable {prog:Program} {w:World} {A:Around} {E:Value->Shared->Prop} {s:Shared} {K:FG9} {x dx C f:Addr} {mA:Str->Option Value} {name:Str} {v:Value}
theorem get_map (X:K.In s.heap) (I:EF s.heap x dx C mA) (hg:PySem.W.plainGet K C name=true) (hh:PySem.W.hasDictIn K C=true)
  (ha:PySem.W.findIn K (.ref C) name=some none) (hv:mA name=some v) (hv':PySem.W.handedIn v=true) (h:Q v { s with toks:=s.toks+1 }) :
  wpAny (model prog w) A (getAttr (.ref x) name expr) Q E s:=by
 obtain ⟨od,J,hl⟩:=I.look;exact PySem.W.get_value X J (Cy hg).1 (PySem.W.findObj_own hh ha rfl (by rw[hl,hv])) hv' h
theorem IW (X:K.In s.heap) (I:EF s.heap x dx C mA) (hg:PySem.W.plainGet K C name=true)
  (hf:PySem.W.findIn K (.ref C) name=some (some (.ref f))) (ht:PySem.W.isFn K (.ref f)=true) (hv:mA name=none) (h:Q (.ref f,[.ref x]) s) :
  wpAny (model prog w) A (getMethod (.ref x) name pl) Q E s:=by
 obtain ⟨od,J,hl⟩:=I.look;exact PySem.W.method_fn X J (Cy hg).1 (Cy hg).2 hf (beq_iff_eq.mp ht) (by show (PySem.W.lookIn name od).map (·.isSome)=some false;rw[hl,hv];rfl) h
theorem JZ (X:K.In s.heap) (I:EF s.heap x dx C mA)
  (hs:PySem.W.findIn K (.ref C) "__setattr__"=some (some (.builtin "object.__setattr__"))) (hp:PySem.W.plainOver K C=true) (ht:PySem.W.takerIn K C name=some none) (hh:PySem.W.hasDictIn K C=true)
  (hw:PySem.Within mA ns) (hsz:ns.length<=sizeLine)
  (h:∀h',EF h' x dx C (λy=>if y=name then some v else mA y)->Heap.SameBut dx s.heap h'->Q () { s with heap:=h',toks:=s.toks+2 }) :
  wpAny (model prog w) A (setAttr (.ref x) name v) Q E s:=by
 obtain ⟨od,J,hl⟩:=I.look;refine PySem.W.set_plain X J hs (PySem.W.osa_open (s:={ s with toks:=s.toks+1 }) (r:=none) X J hp ht λb=>?_);obtain ⟨cd,hc,hd'⟩:=PySem.W.any_some hh;have hx:s.heap.get? x=some ⟨.ref C,some dx,.plain,#[]⟩:=I.obj;refine wpAny_bind (wpAny_pure (wpAny_bind (wpAny_bind (wpAny_loadPart hx (wpAny_bind (PySem.W.Looks.here (s:={ s with toks:=s.toks+1 }) (PySem.W.looks_clsIn X hc) ?_))))));rw[hd'];refine wpAny_pure (a:=some dx) (wpAny_bind (wpAny_pure (wpAny_bind ?_)));refine wpAny_nsSet1 (s:={ s with toks:=s.toks+1 }) I.ns λh' hn2 hs2=>?_
 obtain ⟨oD,esD,epD,hoD,hdD,hcD⟩:=hn2.count (PySem.Within.cons name v hw);refine wpAny_bind (wpAny_lookBehind hoD (by rw[hdD];exact pastItsLine_dict (ai hcD (by rw[bx];lia))) ?_);exact wpAny_pure (h _ ⟨(hs2.2 _ (Ne.symm I.ne)).trans I.obj,hn2,I.ne⟩ hs2)
theorem ID (X:K.In s.heap) (hm:PySem.W.makesIn K C=true)
  (hi:PySem.W.findIn K (.ref C) "__init__"=some (some (.ref f))) (hf:PySem.W.typeIn K (.ref f)=some (.type "function"))
  (h:codeAny (model prog w) (A.under (.builtin "type.__call__" ⟨.ref C :: vs,kw⟩)) (.call (.ref f) ⟨.ref (s.heap.objs.size+1) :: vs,kw⟩) (PySem.W.InitBack (s.heap.objs.size+1) R)
   { s with heap:=(s.heap.push PySem.W.emptyDict).push (PySem.W.instObj C s.heap.objs.size) }) :
  codeAny (model prog w) A (.call (.ref C) ⟨vs,kw⟩) R s:=by
 obtain ⟨hh,g,d,t,os⟩:=s;exact PySem.W.make_core (PySem.W.makes_of X hm) (PySem.W.looks_findIn X hi) (λself=>PySem.W.bind_fn X self hf) (.inl rfl) h
end
def cg (f:Str) (v:V):List (Str×V)->List (Str×V)
 | []=>[(f,v)]
 | (g,x) :: r=>if g=f then (g,v) :: r else (g,x) :: cg f v r
theorem bF (f g:Str) (v:V):∀fs:List (Str×V),(cg f v fs).lookup g=if g=f then some v else fs.lookup g
 | []=>by
  show List.lookup g [(f,v)]=_
  by_cases h:g=f
  ·have hb:(g == f)=true:=beq_iff_eq.mpr h;simp only[List.lookup,hb,if_pos h]
  ·have hb:(g == f)=false:=beq_eq_false_iff_ne.mpr h;simp only[List.lookup,hb,if_neg h]
 | (k,x) :: r=>by
  have ih:=bF f g v r;rw[show cg f v ((k,x) :: r)=(if k=f then (k,v) :: r else (k,x) :: cg f v r) from rfl];by_cases hk:k=f
  ·rw[if_pos hk];by_cases h:g=k
   ·have hb:(g == k)=true:=beq_iff_eq.mpr h;simp only[List.lookup,hb,if_pos (h.trans hk)]
   ·have hb:(g == k)=false:=beq_eq_false_iff_ne.mpr h;simp only[List.lookup,hb,if_neg (λe:g=f=>h (e.trans hk.symm))]
  ·rw[if_neg hk];by_cases h:g=k
   ·have hb:(g == k)=true:=beq_iff_eq.mpr h;simp only[List.lookup,hb,if_neg (λe:g=f=>hk (h.symm.trans e))]
   ·have hb:(g == k)=false:=beq_eq_false_iff_ne.mpr h;simp only[List.lookup,hb];exact ih
theorem vC (f:Str) (v:V):∀fs:List (Str×V),f∈(cg f v fs).map (·.1)/\∀g,g∈fs.map (·.1)->g∈(cg f v fs).map (·.1)
 | []=>⟨by simp [cg],λg h=>by simp at h⟩
 | (k,x) :: r=>by
  obtain ⟨i1,i2⟩:=vC f v r;rw[show cg f v ((k,x) :: r)=(if k=f then (k,v) :: r else (k,x) :: cg f v r) from rfl];by_cases hk:k=f
  ·rw[if_pos hk];subst hk;exact ⟨by simp,λg h=>by simpa using h⟩
  ·rw[if_neg hk];refine ⟨?_,λg h=>?_⟩
   ·rw[fJ];exact bN _ i1
   ·rw[fJ] at h ⊢;rcases aE.mp h with e | e
    ·exact aE.mpr (.inl e)
    ·exact bN _ (i2 g e)
theorem vT (f:Str) (v:V):∀fs:List (Str×V),(cg f v fs).length<=fs.length+1
 | []=>by simp [cg]
 | (k,x) :: r=>by
  have ih:=vT f v r;rw[show cg f v ((k,x) :: r)=(if k=f then (k,v) :: r else (k,x) :: cg f v r) from rfl];by_cases hk:k=f
  ·rw[if_pos hk,bx,bx];lia
  ·rw[if_neg hk,bx,bx];lia
theorem zT.some_of (r:zT (some v) o):∃u,o=some u/\RelV v u:=by
 cases o with
 | none=>exact (show False from r).elim
 | some u=>exact ⟨u,rfl,r⟩
theorem zT.none_of (r:zT none o):o=none:=by
 cases o with
 | none=>rfl
 | some u=>exact (show False from r).elim
theorem GD (r:RelV v u):PySem.W.handedIn u=true:=by
 cases v with
 | non=>cases (show u=Value.none from r);rfl
 | bl b=>cases (show u=Value.bool b from r);rfl
 | int i=>obtain ⟨t,e⟩:=(show ∃t,u=Value.int i t from r);cases e;rfl
 | str x=>obtain ⟨t,e⟩:=(show ∃t,u=Value.str x t from r);cases e;rfl
 | byt b=>obtain ⟨t,e⟩:=(show ∃t,u=Value.bytes b t from r);cases e;rfl
 | flt b=>obtain ⟨t,e⟩:=(show ∃t,u=Value.float b t from r);cases e;rfl
 | ref a=>cases (show u=Value.ref a from r);rfl
 | ty n=>cases (show u=Value.type n from r);rfl
section
variable {P:Program} {w:World} {H H':Hp} {h h':Heap} {a C dx:Addr} {fs fs':List (Str×V)}
theorem xA (hok:xE P w H h) (e:H a=some (.ins C dx fs)):∃mA,EF h a dx C mA/\(∀f,zT (fs.lookup f) (mA f))/\PySem.Within mA (fs.map (·.1))/\fs.length<=1000/\H dx=some (.own a):=by
 obtain ⟨d,z,ne,ob,mA,n,r,q⟩:=(show gZ P w H h a (.ins C dx fs) from hok a _ e);exact ⟨mA,⟨ob,n,ne⟩,r,q,z,d⟩
end
structure GX (K:FG9) (C:Addr):Prop where
 pg:PySem.W.plainGet K C Str.empty=true
 hd:PySem.W.hasDictIn K C=true
 po:PySem.W.plainOver K C=true
 sa:PySem.W.findIn K (.ref C) "__setattr__"=some (some (.builtin "object.__setattr__"))
theorem GX.get {K:FG9} (c:GX K C) (f:Str):PySem.W.plainGet K C f=true:=c.pg
def iI (K:FG9) (C:Addr) (f:Str):Prop:=PySem.W.findIn K (.ref C) f=some none
theorem iI.taker {K:FG9} (n:iI K C f):PySem.W.takerIn K C f=some none:=by
 unfold PySem.W.takerIn;rw[show PySem.W.findIn K (.ref C) f=some none from n];rfl
structure Nk (K:FG9) (C:Addr) (m:Str) (f:Addr):Prop where
 at_:PySem.W.findIn K (.ref C) m=some (some (.ref f))
 fn:PySem.W.isFn K (.ref f)=true
 kp:PySem.W.keepIn K (.ref f)=true
section
variable {X:Cx} {pins:List (Addr×Obj)} {σ:St} {H:Hp} {s:Shared} {a C dx:Addr} {fs:List (Str×V)} {f:Str} {v:V} {A:Around} {E:Value->Shared->Prop}
theorem Et (I:Inv X pins σ H s) (e:H a=some (.ins C dx fs)) (c:GX X.K C) (n:iI X.K C f) (l:fs.lookup f=some v)
  (h:∀u s',Inv X pins σ H s'->RelV v u->Q u s'):wpAny (model X.prog X.w) A (getAttr (.ref a) f b) Q E s:=by
 obtain ⟨mA,O,r,_,_,_⟩:=xA I.hok e;obtain ⟨u,hu,ru⟩:=zT.some_of (v:=v) (o:=mA f) (by rw[<- l];exact r f);exact get_map I.kIn O (c.get f) c.hd n hu (GD ru) (h u _ (I.tok _) ru)
theorem Es (I:Inv X pins σ H s) (e:H a=some (.ins C dx fs)) (c:GX X.K C) (k:Nk X.K C m g) (l:fs.lookup m=none)
  (h:Q (.ref g,[.ref a]) s):wpAny (model X.prog X.w) A (getMethod (.ref a) m pl) Q E s:=by
 obtain ⟨mA,O,r,_,_,_⟩:=xA I.hok e;have hn:mA m=none:=zT.none_of (by rw[<- l];exact r m);exact IW I.kIn O (c.get m) k.at_ k.fn hn h
theorem DZ (I:Inv X pins σ H s) (e:H a=some (.ins C dx fs)) (c:GX X.K C) (n:iI X.K C f) (hl:fs.length < 1000) (ry:RelV y u)
  (h:∀s',Inv X pins σ (upd H a (.ins C dx (cg f y fs))) s'->Q () s'):wpAny (model X.prog X.w) A (setAttr (.ref a) f u) Q E s:=by
 obtain ⟨mA,O,r,wi,_,ho⟩:=xA I.hok e;have hz:(fs.map (·.1)).length<=sizeLine:=by rw[ag,sizeLine_eq];lia
 refine JZ I.kIn O c.sa c.po n.taker c.hd wi hz λh' O' sb=>h _ ?_
 have hd:∃o,h'.get? dx=some o:=let ⟨o,_,_,e',_⟩:=O'.ns;⟨o,e'⟩
 refine I.write (x:=a) (e:=dx) (by rw[e];exact True.intro) (.inr ho) (λb q hb z=>(sb.2 b hb).trans z) hd ?_;refine ⟨by rw[br O.ne];exact ho,?_,O.ne,O'.obj,_,O'.ns,λg=>?_,λg hg=>?_⟩
 ·have:=vT f y fs;lia
 ·show zT ((cg f y fs).lookup g) (if g=f then some u else mA g)
  rw[bF];by_cases q:g=f
  ·rw[if_pos q,if_pos q];exact ry
  ·rw[if_neg q,if_neg q];exact r g
 ·by_cases q:g=f
  ·rw[q];exact (vC f y fs).1
  ·refine (vC f y fs).2 g (wi g λz=>hg ?_);show (if g=f then some u else mA g)=none
   rw[if_neg q];exact z
theorem Inv.made (I:Inv X pins σ H s):Inv X pins σ (upd (upd H s.heap.objs.size (.own (s.heap.objs.size+1))) (s.heap.objs.size+1) (.ins C s.heap.objs.size []))
  { s with heap:=(s.heap.push PySem.W.emptyDict).push (PySem.W.instObj C s.heap.objs.size) }:=by
 have e1:(s.heap.push PySem.W.emptyDict).get? s.heap.objs.size=some PySem.W.emptyDict:=Heap.get?_push_size s.heap rfl
 have e2:((s.heap.push PySem.W.emptyDict).push (PySem.W.instObj C s.heap.objs.size)).get? (s.heap.objs.size+1)=some (PySem.W.instObj C s.heap.objs.size):=by
  have:=Heap.get?_push_size (s.heap.push PySem.W.emptyDict) (o:=PySem.W.instObj C s.heap.objs.size) rfl;rwa [Heap.size_push] at this
 have e3:(s.heap.push PySem.W.emptyDict).Ns s.heap.objs.size (λ_=>none):=⟨PySem.W.emptyDict,#[],_,e1,rfl,(λe he=>absurd he (by simp)),λ_=>rfl⟩;have I1:=I.laid (a:=s.heap.objs.size) (o:=.own (s.heap.objs.size+1)) (h':=s.heap.push PySem.W.emptyDict) (t':=s.toks) (λb u q=>Heap.get?_push_of_some _ q) (ak _) ⟨_,e1⟩;refine I1.laid (a:=s.heap.objs.size+1) (o:=.ins C s.heap.objs.size []) (t':=s.toks) (λb u q=>Heap.get?_push_of_some _ q) (Nat.le_of_eq (Heap.size_push _ _)) ?_;have ne:s.heap.objs.size≠s.heap.objs.size+1:=cG (d6 _);refine ⟨by rw[br ne,aH],bu _,ne,e2,λ_=>none,(Heap.Ns1.of_empty e3).at λo q=>Heap.get?_push_of_some _ q,λ_=>True.intro,λy hy=>absurd rfl hy⟩
theorem KZ (hb:attributeBase e f env (eval e env)=eval e env)
  (h:wpAny (model prog w) A (eval e env) (λo s₁=>wpAny (model prog w) A (getAttr o f true) Q E s₁) E s):wpAny (model prog w) A (eval (.Attribute e f pos) env) Q E s :=
 Attribute_any_ h (by rw[arm_eval_Attribute,hb])
end
def Mb (K:FG9) (ta:TE) (f:Str):TE:=λσ H Q=>ta σ H λx H1=>∃a C dx fs v,x=.ref a/\H1 a=some (.ins C dx fs)/\GX K C/\iI K C f/\fs.lookup f=some v/\Q v H1
def N7 (K:FG9) (ta tv:TE) (f:Str):TS:=λD σ H=>tv σ H λy H1=>ta σ H1 λx H2=>∃a C dx fs,x=.ref a/\H2 a=some (.ins C dx fs)/\GX K C/\iI K C f/\fs.length < 1000 /\
 D.nx σ (upd H2 a (.ins C dx (cg f y fs)))
section
variable {X:Cx} {o e value:Expr} {f:Str} {pos pos' tpos:Pos} {ta tv:TE}
theorem ee (he:PE X e ta) (hb:attributeBase e f X.env (eval e X.env)=eval e X.env):PE X (.Attribute e f pos) (Mb X.K ta f):=by
 intro pins s σ H Q I h;refine KZ hb (fz (he pins s σ H _ I h) λu s1 ⟨x,H1,I1,rx,a,C,dx,fs,v,ex,ea,c,n,l,q⟩=>?_);subst ex;obtain rfl:u=Value.ref a:=rx;exact Et I1 ea c n l λu' s2 I2 ru=>⟨v,H1,I2,ru,q⟩
theorem vg (ha:PE X o ta) (hv:PE X value tv) (hs:swapsWith value (some (.Attribute o f pos')) pos.line X.env=pure false):PS X (.Assign [.Attribute o f pos'] value pos) (N7 X.K ta tv f):=by
 intro pins s σ H D I h;refine plainObj_wpAny_Assign_Attribute (fz (hv pins s σ H _ I h) λu s1 ⟨y,H1,I1,ry,q⟩=>fz (ha pins s1 σ H1 _ I1 q) λov s2 ⟨x,H2,I2,rx,a,C,dx,fs,ex,ea,c,n,l,q2⟩=>?_) hs;subst ex;obtain rfl:ov=Value.ref a:=rx;exact DZ I2 ea c n l ry λs3 I3=>⟨σ,_,I3,q2⟩
end
section
variable {X:Cx} {pins:List (Addr×Obj)} {σ:St} {H:Hp} {s:Shared} {A:Around} {E:Value->Shared->Prop} {Q:Value->Shared->Prop} {c:Value} {b:Bool}
inductive vI (K:FG9) (H:Hp):V->Value->Prop where
 | non:vI K H .non (.type "NoneType")
 | bl (x:Bool):vI K H (.bl x) (.type "bool")
 | int (i:Int):vI K H (.int i) (.type "int")
 | str (x:Str):vI K H (.str x) (.type "str")
 | flt (x:UInt64):vI K H (.flt x) (.type "float")
 | lst {a:Addr} {xs:List V} (e:H a=some (.lst xs)):vI K H (.ref a) (.type "list")
 | frz {a:Addr} {o:Obj} {xs:List V} (e:H a=some (.frz o (.lst xs))):vI K H (.ref a) (.type "list")
 | tup {a:Addr} {xs:List V} (e:H a=some (.tup xs)):vI K H (.ref a) (.type "tuple")
 | dK {a:Addr} {kvs:List (Key×V)} (e:H a=some (.dK kvs)):vI K H (.ref a) (.type "dict")
 | dT {a:Addr} {kvs:List (List Key×V)} (e:H a=some (.dT kvs)):vI K H (.ref a) (.type "dict")
 | ins {a C dx:Addr} {fs:List (Str×V)} (e:H a=some (.ins C dx fs)) (cl:GX K C) (ha:PySem.W.findIn K (.ref C) "__class__"=some (some (.builtin "object.__class__")))
   (hn:PySem.W.specialIn K (.builtin "object.__class__") "__get__"=some (some (.builtin "getset_descriptor.__get__"))) (htk:PySem.W.takesIn K (.builtin "object.__class__")=some true)
   (hm:PySem.W.mroIn K C (.type "object")=some true):vI K H (.ref a) (.ref C)
theorem Al (I:Inv X pins σ H s) (rx:RelV x u) (ty:vI X.K H x t) (e:PySem.W.kitOne X.K t c=some b) (h:∀tk,Q (.bool b) { s with toks:=tk }) :
  wpAny (model X.prog X.w) A (call (.builtin "isinstance") [u,c]) Q E s:=by
 cases ty with
 | non=>cases (show u=Value.none from rx);exact c5 PySem.W.kitx_none I.kIn True.intro e (λz=>nomatch z) h
 | bl y=>cases (show u=Value.bool y from rx);exact c5 PySem.W.kitx_bool I.kIn True.intro e (λz=>nomatch z) h
 | int i=>obtain ⟨t,q⟩:=(show ∃t,u=Value.int i t from rx);cases q;exact c5 PySem.W.kitx_int I.kIn True.intro e (λz=>nomatch z) h
 | str y=>obtain ⟨t,q⟩:=(show ∃t,u=Value.str y t from rx);cases q;exact c5 PySem.W.kitx_str I.kIn True.intro e (λz=>nomatch z) h
 | flt y=>obtain ⟨t,q⟩:=(show ∃t,u=Value.float y t from rx);cases q;exact c5 PySem.W.kitx_float I.kIn True.intro e (λz=>nomatch z) h
 | @lst a xs ea =>
  cases (show u=Value.ref a from rx);obtain ⟨_,_,n,_,h1⟩:=(show gZ X.prog X.w H s.heap a (.lst xs) from I.hok a _ ea);exact c5 PySem.W.kitx_list I.kIn ⟨_,h1,rfl⟩ e (λz=>nomatch z) h
 | @frz a ob xs ea =>
  cases (show u=Value.ref a from rx);obtain ⟨_,_,_,n,_,h1⟩:=(show gZ X.prog X.w H s.heap a (.frz ob (.lst xs)) from I.hok a _ ea);exact c5 PySem.W.kitx_list I.kIn ⟨_,h1,rfl⟩ e (λz=>nomatch z) h
 | @tup a xs ea =>
  cases (show u=Value.ref a from rx);obtain ⟨_,_,_,p⟩:=(show gZ X.prog X.w H s.heap a (.tup xs) from I.hok a _ ea);obtain ⟨o,h1,h2,_⟩:=p;exact c5 PySem.W.kitx_tuple I.kIn ⟨o,h1,h2⟩ e (λz=>nomatch z) h
 | @dK a kvs ea =>
  cases (show u=Value.ref a from rx);obtain ⟨_,_,vs,_,p⟩:=(show gZ X.prog X.w H s.heap a (.dK kvs) from I.hok a _ ea);obtain ⟨o,es,ep,h1,h2,_⟩:=p;exact c5 PySem.W.kitx_dict I.kIn ⟨o,h1,h2.1⟩ e (λz=>nomatch z) h
 | @dT a kvs ea =>
  cases (show u=Value.ref a from rx);obtain ⟨_,_,xs,_,o,es,ep,h1,h2,_⟩:=(show gZ X.prog X.w H s.heap a (.dT kvs) from I.hok a _ ea);exact c5 PySem.W.kitx_dict I.kIn ⟨o,h1,h2.1⟩ e (λz=>nomatch z) h
 | @ins a C dx fs ea cl ha hn htk hm =>
  cases (show u=Value.ref a from rx);obtain ⟨mA,O,_⟩:=xA I.hok ea;obtain ⟨od,J,_⟩:=O.look;exact c5 (PySem.W.kitx_own (cl.get _) cl.hd ha hn htk hm) I.kIn J e (λz=>nomatch z) h
end
structure jS (k:Nat) (A:Around):Prop where
 hd:A.handled=none
 dp:A.depth+3*k+5 < recursionLimit
 un:A.units+16*k+200 < cLine
theorem jS.mono (r:jS k A) (h:j<=k):jS j A:=⟨r.hd,by have:=r.dp;lia,by have:=r.un;lia⟩
theorem jS.deeper (r:jS (k+1) A) (env:Env):jS k (A.deeper env) :=
 ⟨r.hd,by have:=r.dp;show A.depth+1+3*k+5 < _;lia,by have:=r.un;show A.units+3+16*k+200 < _;lia⟩
theorem Em {A:Around}:(A.under (.builtin "type.__call__" ⟨.ref C :: us,kw⟩)).depth=A.depth+1:=by
 first | rfl | simp [Around.under,Code.weight,Code.isCreation,Code.isGuard,Code.isCaller,Code.frames,Code.isFrame,guardIds]
theorem El {A:Around}:(A.under (.builtin "type.__call__" ⟨.ref C :: us,kw⟩)).units=A.units+1:=by
 first | rfl | simp [Around.under,Code.cUnits,Code.frames,Code.isFrame]
theorem jS.make (r:jS (k+1) A) (C:Addr) (us:List Value) (kw:List (Str×Value)):jS k (A.under (.builtin "type.__call__" ⟨.ref C :: us,kw⟩)) :=
 ⟨r.hd,by have:=r.dp;rw[Em];lia,by have:=r.un;rw[El];lia⟩
theorem jS.depth (r:jS k A):A.depth < recursionLimit:=by have:=r.dp;lia
theorem jS.units (r:jS k A):A.units+64 < cLine:=by have:=r.un;lia
def DX:TA:=λ_ H Q=>Q [] H
def oT (ta:TE) (tr:TA):TA:=λσ H Q=>ta σ H λx H1=>tr σ H1 λxs H2=>Q (x :: xs) H2
section
variable {X:Cx} {e:Expr} {es:List Expr} {te:TE} {t:TA} {pos:Pos}
theorem aj:PA X [] DX:=λ_ _ _ _ H Q I h=>Calls.spliced_nil ⟨[],H,I,.nil,h⟩
theorem ae (ha:PE X e te) (hr:PA X es t) (hs:starEach (e :: es) X.env=(false,eval e X.env) :: starEach es X.env:=by rfl):PA X (e :: es) (oT te t):=by
 intro pos pins s σ H Q I h;rw[hs];show wpAny _ _ (spliced ((false,eval e X.env) :: backTo pos (starEach es X.env))) _ _ s
 refine Calls.spliced_cons (fz (ha pins s σ H _ I h) λu s1 ⟨x,H1,I1,r1,q1⟩=>?_);exact fz (hr pos pins s1 σ H1 _ I1 q1) λus s2 ⟨xs,H2,I2,r2,q2⟩=>⟨x :: xs,H2,I2,.cons r1 r2,q2⟩
def NH (t:TA):TE:=λσ H Q=>t σ H λxs H1=>xs.length<=sizeLine/\∀p,H1 p=none->Q (.ref p) (upd H1 p (.tup xs))
def NP (t:TA):TE:=λσ H Q=>t σ H λxs H1=>xs.length<=sizeLine/\∀p,H1 p=none->Q (.ref p) (upd H1 p (.lst xs))
theorem cO (h:PA X es t):PE X (.Tuple es x1 pos) (NH t):=by
 intro pins s σ H Q I hq;refine wpAny_Tuple_spliced (fz (h pos pins s σ H _ I hq) λus s1 ⟨xs,H1,I1,r,z,q⟩=>⟨by rw[<- r.length];exact z,?_⟩);have hf:H1 s1.heap.objs.size=none:=I1.hok.fresh (ak _);refine ⟨.ref s1.heap.objs.size,upd H1 s1.heap.objs.size (.tup xs),I1.laid (t':=s1.toks) (λb u e=>Heap.get?_push_of_some _ e) (ak _) ?_,rfl,q _ hf⟩;exact ⟨z,us,r,⟨_,Heap.get?_push_size _ rfl,rfl,_,rfl⟩⟩
theorem eF (h:PA X es t):PE X (.List es pos) (NP t):=by
 intro pins s σ H Q I hq;refine wpAny_List_spliced (fz (h pos pins s σ H _ I hq) λus s1 ⟨xs,H1,I1,r,z,q⟩=>⟨by rw[<- r.length];exact z,?_⟩);have hf:H1 s1.heap.objs.size=none:=I1.hok.fresh (ak _);refine ⟨.ref s1.heap.objs.size,upd H1 s1.heap.objs.size (.lst xs),I1.laid (t':=s1.toks) (λb u e=>Heap.get?_push_of_some _ e) (ak _) ?_,rfl,q _ hf⟩;exact ⟨z,us,0,r,Heap.get?_push_size _ rfl⟩
end
abbrev Sp:=List V->Hp->VK->XK->Prop
abbrev Ju:=List Env->Hp->Shared->XK->Value->Shared->Prop
structure EG (P:Program) (w:World) (K:FG9) (mg:Str->Option Value) (base:Heap) (A:Around) (outer:List Env) (s:Shared) (H:Hp):Prop where
 frames:A.frames=some outer
 mod:Mod K mg base
 bs:∀b o,base.get? b=some o->s.heap.get? b=some o/\H b=none
 bsz:base.objs.size<=s.heap.objs.size
 funs:s.heap.FunFrames base outer
 frf:∀b∈GV outer,H b=none
 hok:xE P w H s.heap
 bare:AllBare s.gens
def CE (outer:List Env) (P:Program) (w:World) (H:Hp) (s:Shared) (Q:VK) (u:Value) (s':Shared):Prop :=
 ∃v H',s'.os=s.os/\AllBare s'.gens/\Un (GV outer) [] H H' s.heap s'.heap/\xE P w H' s'.heap/\RelV v u/\Q v H'
def CR (CX:Ju) (outer:List Env) (P:Program) (w:World) (H:Hp) (s:Shared) (Q:VK) (E:XK) (r:Result) (s':Shared):Prop :=
 match r with
 | .ok (.ret u)=>CE outer P w H s Q u s'
 | .ok _=>False
 | .error e=>CX outer H s E e s'
structure cE (P:Program) (w:World) (K:FG9) (mg:Str->Option Value) (base:Heap) (CX:Ju) (k:Nat) (f:Addr) (fd:FuncData) (ps:List Str) (sp:Sp):Prop where
 len:∀vs H Q E,sp vs H Q E->vs.length=ps.length
 run:∀(A:Around) (outer:List Env) (s:Shared) (H:Hp) (args:Args) (us:List Value) (vs:List V) (Q:VK) (E:XK),jS k A->EG P w K mg base A outer s H->BindsTo s fd args (ps.zip us)->cC vs us->sp vs H Q E →
  codeAny (model P w) A (.call (.ref f) args) (CR CX outer P w H s Q E) s
theorem EG.make {K:FG9} (e:EG P w K mg base A outer s H) (C:Addr) (us:List Value) (kw:List (Str×Value)) :
  EG P w K mg base (A.under (.builtin "type.__call__" ⟨.ref C :: us,kw⟩)) outer s H:=⟨by first | exact e.frames | (simpa [Around.under,Code.envs,Code.isFrame,pushEnvs] using e.frames),e.mod,e.bs,e.bsz,e.funs,e.frf,e.hok,e.bare⟩
section
variable {X:Cx} {pins:List (Addr×Obj)} {σ:St} {H:Hp} {s s':Shared}
theorem Inv.env0 (I:Inv X pins σ H s):EG X.prog X.w X.K X.mg X.base X.A X.stack s H :=
 ⟨I.ok.frames,I.ok.mod,I.bs,ai I.ok.bsz I.sz,I.stack,I.stkFree,I.hok,I.bare⟩
theorem Inv.after (I:Inv X pins σ H s) (h:CE X.stack X.prog X.w H s Q u s'):EP X pins σ Q u s':=by
 obtain ⟨v,H',os,bare,un,hok,r,q⟩:=h;obtain ⟨hh,g,d,t,os'⟩:=s';obtain rfl:os'=s.os:=os;exact ⟨v,H',I.call (h':=hh) (g':=g) (d':=d) (t':=t) (ch:=[]) un hok bare (λb z=>absurd z (by simp)),r,q⟩
end
def HE (sp:Sp) (dvs:List V) (E:XK) (t:TA):TE:=λσ H Q=>t σ H λvs H1=>sp (vs++dvs) H1 Q E
def Lf (C:Addr) (m:Str) (sp:Sp) (dvs:List V) (E:XK) (ta:TE) (t:TA):TE:=λσ H Q=>ta σ H λx H1=>∃a dx fs,x=.ref a/\H1 a=some (.ins C dx fs)/\fs.lookup m=none /\
 t σ H1 λvs H2=>sp (x :: (vs++dvs)) H2 Q E
def Lh (C:Addr) (sp:Sp) (dvs:List V) (E:XK) (t:TA):TE:=λσ H Q=>t σ H λvs H1=>∀x dx,H1 x=none->H1 dx=none->dx≠x →
 sp (.ref x :: (vs++dvs)) (upd (upd H1 dx (.own x)) x (.ins C dx [])) (λv H2=>v=.non/\Q (.ref x) H2) E
def Binds (K:FG9) (fd:FuncData) (ps:List Str) (ds:List Value):Prop :=
 ∀(s:Shared) (us:List Value),K.In s.heap->(us++ds).length=ps.length->BindsTo s fd ⟨us,[]⟩ (ps.zip (us++ds))
theorem Binds.all {K:FG9} (h:∀us:List Value,us.length=ps.length->bindArgs fd ⟨us,[]⟩=pure (ps.zip us)):Binds K fd ps []:=λs us _ hl=>by
 rw[oQ] at hl ⊢;exact .of_eq (h us hl)
def vJ (CX:Ju) (X:Cx) (E:XK):Prop:=∀(pins:List (Addr×Obj)) (σ:St) (H:Hp) (s:Shared) (e:Value) (s':Shared),Inv X pins σ H s->CX X.stack H s E e s'->X.xe e s'
section
variable {X:Cx} {CX:Ju} {k:Nat} {f C:Addr} {fd:FuncData} {ps:List Str} {sp:Sp} {dvs:List V} {ds:List Value} {E:XK} {x m:Str} {p pos apos:Pos} {e o:Expr} {es:List Expr} {ta:TE} {t:TA}
theorem HV {σ:St} (F:cE X.prog X.w X.K X.mg X.base CX k f fd ps sp) (hr:jS k X.A) (hb:Binds X.K fd ps ds) (hd:cC dvs ds) (hx:vJ CX X E)
  (I:Inv X pins σ H s) (r:cC vs us) (h:sp (vs++dvs) H Q E):wpAny (model X.prog X.w) X.A (call (.ref f) us) (EP X pins σ Q) X.xe s:=by
 have r2:cC (vs++dvs) (us++ds):=r.append hd;have hl:(us++ds).length=ps.length:=by rw[<- r2.length];exact F.len _ _ _ _ h
 refine wpAny_call (codeAny_mono (F.run X.A X.stack s H ⟨us,[]⟩ (us++ds) (vs++dvs) Q E hr I.env0 (hb s us I.kIn hl) r2 h) λr s' hq=>?_);cases r with
 | error e=>exact hx pins σ H s e s' I hq
 | ok fl =>
  cases fl with
  | ret u=>exact I.after hq
  | next=>exact False.elim hq
  | brk=>exact False.elim hq
  | cont=>exact False.elim hq
theorem Ky (F:cE X.prog X.w X.K X.mg X.base CX k f fd ps sp) (hr:jS k X.A) (hg:Gl X x) (hm:X.mg x=some (.ref f)) (hk:PySem.W.keepIn X.K (.ref f)=true) (hb:Binds X.K fd ps ds) (hd:cC dvs ds) (hx:vJ CX X E)
  (ha:PA X (e :: es) t) (hdb:(x == ("__debug__":Str))=false:=by decide) (he:starEach (e :: es) X.env=(false,eval e X.env) :: starEach es X.env:=by rfl) (hpl:(backTo pos (starEach es X.env)).any (·.1)=false:=by rfl) :
  PE X (.Call (.Name x p) (e :: es) [] pos) (HE sp dvs E t):=by
 intro pins s σ H Q I h;refine wpAny_Call_Name_kw (BS I hg hm ?_ hdb);refine PySem.W.callWith_K (h₀:=X.base) I.ok.mod.kin hk (fz (ha pos pins s σ H _ I h) λus s1 ⟨vs,H1,I1,r,q⟩=>⟨I1.kIn,?_⟩) he hpl;exact HV F hr hb hd hx I1 r q
theorem Ij {pl : Sem Bool} (he : PE X o ta) (c : GX X.K C) (hm : Nk X.K C m f) (F : cE X.prog X.w X.K X.mg X.base CX k f fd ps sp) (hr : jS k X.A) (hb : Binds X.K fd ps ds) (hd : cC dvs ds) (hx : vJ CX X E)
    (ht : eval (.Call (.Attribute o m apos) [] [] pos) X.env = (do
      let ov <- eval o X.env
      standAt apos.atName
      let (f, first) <- holding [ov] (getMethod ov m pl)
      callWith pos f first (backTo pos (starEach [] X.env)) (backToKw pos (keywordEach [] X.env))) := by rfl) :
    PE X (.Call (.Attribute o m apos) [] [] pos) (Lf C m sp dvs E ta DX) := by
  intro pins s σ H Q I h;refine PySem.W.methodCall_KW (pl := pl) (fz (he pins s σ H _ I h) λu s1 ⟨x, H1, I1, rx, a, dx, fs, ex, ea, l, q⟩ => ?_) ht;subst ex;obtain rfl : u = Value.ref a := rx;refine Es I1 ea c hm l ?_;exact PySem.W.callWith_K0 (first := [.ref a]) I1.kIn hm.kp (HV (us := [.ref a]) (vs := [.ref a]) F hr hb hd hx I1 (.cons rfl .nil) q)

structure Mk (K:FG9) (C f:Addr):Prop where
 makes:PySem.W.makesIn K C=true
 init:PySem.W.findIn K (.ref C) "__init__"=some (some (.ref f))
 fn:PySem.W.isFn K (.ref f)=true
 kp:PySem.W.keepIn K (.ref C)=true
theorem HU {σ:St} (M:Mk X.K C f) (F:cE X.prog X.w X.K X.mg X.base CX k f fd ps sp) (hr:jS (k+1) X.A) (hb:Binds X.K fd ps ds) (hd:cC dvs ds)
  (hx:vJ CX X E) (I:Inv X pins σ H s) (r:cC vs us)
  (h:∀x dx,H x=none->H dx=none->dx≠x->sp (.ref x :: (vs++dvs)) (upd (upd H dx (.own x)) x (.ins C dx [])) (λv H2=>v=.non/\Q (.ref x) H2) E) :
  wpAny (model X.prog X.w) X.A (call (.ref C) us) (EP X pins σ Q) X.xe s:=by
 have hq:=h (s.heap.objs.size+1) s.heap.objs.size (I.hok.fresh (oJ _)) (I.hok.fresh (ak _)) (cG (d6 _));have I2:=Inv.made (C:=C) I;have r2:cC (V.ref (s.heap.objs.size+1) :: (vs++dvs)) (Value.ref (s.heap.objs.size+1) :: (us++ds)):=.cons rfl (r.append hd)
 have hl:(Value.ref (s.heap.objs.size+1) :: us++ds).length=ps.length:=by
  have e:=r2.length;rw[F.len _ _ _ _ hq] at e;exact e.symm
 refine wpAny_call (ID (f:=f) I.kIn M.makes M.init (beq_iff_eq.mp M.fn) (codeAny_mono (F.run _ X.stack _ _ ⟨Value.ref (s.heap.objs.size+1) :: us,[]⟩ (Value.ref (s.heap.objs.size+1) :: (us++ds)) _ _ E (hr.make C us [])
  (I2.env0.make C us []) (hb _ (Value.ref (s.heap.objs.size+1) :: us) I2.kIn hl) r2 hq) λr s' hq'=>?_))
 cases r with
 | error e=>exact hx pins σ _ _ e s' I2 hq'
 | ok fl =>
  cases fl with
  | ret u =>
   obtain ⟨v,H',I3,rv,ev,q3⟩:=I2.after hq';subst ev;exact ⟨rv,⟨V.ref (s.heap.objs.size+1),H',I3,rfl,q3⟩⟩
  | next=>exact False.elim hq'
  | brk=>exact False.elim hq'
  | cont=>exact False.elim hq'
theorem BC (M:Mk X.K C f) (F:cE X.prog X.w X.K X.mg X.base CX k f fd ps sp) (hr:jS (k+1) X.A) (hg:Gl X x) (hm:X.mg x=some (.ref C)) (hb:Binds X.K fd ps ds) (hd:cC dvs ds) (hx:vJ CX X E)
  (ha:PA X (e :: es) t) (hdb:(x == ("__debug__":Str))=false:=by decide) (he:starEach (e :: es) X.env=(false,eval e X.env) :: starEach es X.env:=by rfl) (hpl:(backTo pos (starEach es X.env)).any (·.1)=false:=by rfl) :
  PE X (.Call (.Name x p) (e :: es) [] pos) (Lh C sp dvs E t):=by
 intro pins s σ H Q I h;refine wpAny_Call_Name_kw (BS I hg hm ?_ hdb);refine PySem.W.callWith_K (h₀:=X.base) I.ok.mod.kin M.kp (fz (ha pos pins s σ H _ I h) λus s1 ⟨vs,H1,I1,r,q⟩=>⟨I1.kIn,?_⟩) he hpl;exact HU M F hr hb hd hx I1 r q
end
structure aX (N P:List Str) (sc:Scope):Prop where
 kind:sc.kind=.function
 co:sc.isCoroutine=false
 gen:sc.isGenerator=false
 nd:N.Nodup
 pre:N.take P.length=P
 par:∀x∈P,sc.names.lookup x=some .local\/sc.names.lookup x=some .cell
 nofree:∀y∈sc.names,y.2≠.free
theorem AH {kindOf:Str->Option NameKind} {x:Str}:∀{binds:List (Str×Value)} {m:Str->Option Value},(∀v,(x,v)∉binds)->bindL kindOf binds m x=m x
 | [],_,_=>rfl
 | (n,v) :: r,m,h=>by
  unfold bindL;rw[AH λw hw=>h w (bN _ hw)]
  split
  ·have:x≠n:=by rintro rfl;exact h v cp
   simp [this]
  ·rfl
theorem AJ {kindOf:Str->Option NameKind} {x:Str}:∀{binds:List (Str×Value)} {m:Str->Option Value},(∀v,(x,v)∉binds)->bindC kindOf binds m x=m x
 | [],_,_=>rfl
 | (n,v) :: r,m,h=>by
  unfold bindC;rw[AJ λw hw=>h w (bN _ hw)]
  split
  ·rfl
  ·have:x≠n:=by rintro rfl;exact h v cp
   simp [this]
theorem AI {kindOf:Str->Option NameKind} {x:Str} {v:Value}:∀{P:List Str} {vs:List Value} {i:Nat} {m:Str->Option Value},P.Nodup->P[i]?=some x->vs[i]?=some v->kindOf x=some .local →
  bindL kindOf (P.zip vs) m x=some v
 | [],_,_,_,_,h,_,_=>by simp at h
 | _ :: _,[],_,_,_,_,h,_=>by simp at h
 | p :: P,w :: vs,0,m,nd,h1,h2,hk=>by
  simp at h1 h2;subst h1;subst h2;show bindL kindOf ((p,w) :: P.zip vs) m p=_
  unfold bindL;rw[AH λv hv=>(dP.mp nd).1 (JE hv).1,if_pos hk];simp
 | p :: P,w :: vs,i+1,m,nd,h1,h2,hk=>by
  show bindL kindOf ((p,w) :: P.zip vs) m x=_
  unfold bindL;exact AI (i:=i) (dP.mp nd).2 (by simpa using h1) (by simpa using h2) hk
theorem AK {kindOf:Str->Option NameKind} {x:Str} {v:Value}:∀{P:List Str} {vs:List Value} {i:Nat} {m:Str->Option Value},P.Nodup->P[i]?=some x->vs[i]?=some v->kindOf x≠some .local →
  bindC kindOf (P.zip vs) m x=some v
 | [],_,_,_,_,h,_,_=>by simp at h
 | _ :: _,[],_,_,_,_,h,_=>by simp at h
 | p :: P,w :: vs,0,m,nd,h1,h2,hk=>by
  simp at h1 h2;subst h1;subst h2;show bindC kindOf ((p,w) :: P.zip vs) m p=_
  unfold bindC;rw[AJ λv hv=>(dP.mp nd).1 (JE hv).1,if_neg hk];simp
 | p :: P,w :: vs,i+1,m,nd,h1,h2,hk=>by
  show bindC kindOf ((p,w) :: P.zip vs) m x=_
  unfold bindC;exact AK (i:=i) (dP.mp nd).2 (by simpa using h1) (by simpa using h2) hk
def start (N:List Str) (vs:List V):St:=vs.map some++List.replicate (N.length - vs.length) none
def GK (CX:Ju) (P:Program) (w:World) (K:FG9) (mg:Str->Option Value) (base:Heap) (N:List Str) (qual:Str) (scope:Scope) (f:Addr) (cd:Value) (A:Around) (outer:List Env) (s:Shared) (H:Hp) (E:XK):Cx where
 prog:=P
 w:=w
 K:=K
 mg:=mg
 base:=base
 A:=A.deeper (envOfC qual scope s.heap.objs.size f cd)
 N:=N
 s₀:=s
 H₀:=H
 env:=envOfC qual scope s.heap.objs.size f cd
 outer:=outer
 stack:=envOfC qual scope s.heap.objs.size f cd :: outer
 ex:=[]
 calm:=true
 fn:=λ_=>true
 pn:=[]
 xe:=λe s'=>wpAny (model P w) (A.deeper (envOfC qual scope s.heap.objs.size f cd)) (leaving (envOfC qual scope s.heap.objs.size f cd) e) (λ_ s''=>CX outer H s E e s'') (λe' s''=>CX outer H s E e' s'') s'
theorem DC {sc:Scope} (h:sc.names.lookup x=some .cell):∃c,(cellsFrom n sc.names []).lookup x=some c:=by
 have q:=xF sc.names n [] (.inl h);exact NA.mp q
theorem GA {K:FG9} 
  (S:aX N ps scope) (hd:A.handled=none) (e0:EG P w K mg base A outer s H) (hl:vs.length=ps.length) (r:cC vs us)
  (x:InCallC s s.heap.objs.size (bindL (envOfC qual scope s.heap.objs.size f cd).kindOf (ps.zip us) λ_=>none) (cellsFrom (s.heap.objs.size+1) scope.names []) (bindC (envOfC qual scope s.heap.objs.size f cd).kindOf (ps.zip us) λ_=>none) s1) :
  Inv (GK CX P w K mg base N qual scope f cd A outer s H E) [] (start N vs) H s1:=by
 have hpl:ps.length<=N.length:=by have:=congrArg List.length S.pre;rw[cN] at this;lia
 obtain ⟨h1,tk,rfl,hk⟩:=x.done;have noA:∀b:Addr,b∉(GK CX P w K mg base N qual scope f cd A outer s H E).ex:=λb z=>absurd (show b∈([]:List Addr) from z) (by simp)
 refine ⟨⟨e0.mod,S.kind,rfl,rfl,ak _,λy z c h1 h2=>?_,λy hy=>?_,λy c _ h=>?_,λ_=>hd,Around.frames_deeper e0.frames,.inr ⟨rfl,rfl⟩,λb z=>absurd z (noA b),e0.bs,e0.bsz,λb _ _=>noA b,λb z=>absurd z (noA b),e0.funs,e0.frf⟩,
  rfl,e0.bare,Un.kept hk,⟨_,x.toInCall.ns,λi y v h1 h2 h3=>?_⟩,λy c h=>⟨_,x.cell y c h⟩,e0.hok.fresh (ak _),λy c h=>?_,λp hp=>absurd (show p∈([]:List (Addr×Obj)) from hp) (by simp),e0.hok.kept hk,?_⟩
 ·exact name_of_addr x.apart (jF h1) (jF h2)
 ·have hy:scope.names.lookup y=some .cell\/scope.names.lookup y=some .free:=hy;rcases hy with hy | hy
  ·exact DC hy
  ·exact absurd rfl (S.nofree _ (jF hy))
 ·exact aN (x.above y c (jF h))
 ·have hi:i < vs.length:=by
   unfold start at h2;by_cases hi:i < vs.length
   ·exact hi
   ·rw[bT (by simpa using hi)] at h2;rw[OT] at h2
    split at h2 <;> cases h2
  have ha:vs[i]?=some v:=by
   unfold start at h2;rw[cD (by simpa using hi),aD] at h2;cases e:vs[i]? with
   | none=>rw[e] at h2;cases h2
   | some a=>rw[e] at h2;cases h2;rfl
  obtain ⟨u,hu,rv⟩:=r.get ha
  have hp:ps[i]?=some y:=by
   rw[<- S.pre,jT (by lia)];exact h1
  have ndP:ps.Nodup:=by rw[<- S.pre];exact S.nd.sublist (List.take_sublist _ _)
  refine ⟨u,rv,?_⟩;rcases S.par y (ax hp) with k | k
  ·exact .inl ⟨k,AI ndP hp hu k⟩
  ·obtain ⟨c,e⟩:=DC (n:=s.heap.objs.size+1) k;refine .inr ⟨.inl k,c,e,?_⟩;have q:=x.cell y c e;rw[AK ndP hp hu (by show scope.names.lookup y≠_;rw[k];decide)] at q;exact q
 ·exact e0.hok.fresh (aN (x.above y c (jF h)))
 ·unfold start;show _=N.length
  rw[av,ag,dj]
  lia
theorem OH {K:FG9} {dV kV doc pm cdv ct oc:Value} 
 (lk:K.lookup f=some ⟨oc,od,.func (PySem.W.fnOf name qual params body scope dV kV doc pm an cdv ct),osl⟩) (hcd:PySem.W.codeIn K cdv qual=true) (S:aX N ps scope)
  (len:∀vs H Q E,sp vs H Q E->vs.length=ps.length)
  (hbody:∀(A:Around) (outer:List Env) (s:Shared) (H:Hp) (vs:List V) (Q:VK) (E:XK),jS k (A.deeper (envOfC qual scope s.heap.objs.size f cdv))->sp vs H Q E →
   ∃t,EE (GK CX P w K mg base N qual scope f cdv A outer s H E) body t/\t { nx:=λ_ H'=>Q .non H',rt:=Q } (start N vs) H) :
  cE P w K mg base CX (k+1) f (PySem.W.fnOf name qual params body scope dV kV doc pm an cdv ct) ps sp:=by
 refine ⟨len,λA outer s H args us vs Q E hr e0 hb r hsp=>?_⟩;have hl:=len _ _ _ _ hsp;have KX:K.In s.heap:=e0.mod.kin.keeps λb o e=>(e0.bs b o e).1
 have lim:s.heap.NoLimit:=e0.mod.nolimit.keeps λb o e=>(e0.bs b o e).1
 have hkind:∀y∈ps.zip us,scope.names.lookup y.1=some .local\/(scope.names.lookup y.1=some .cell/\((cellsFrom (s.heap.objs.size+1) scope.names []).lookup y.1).isSome=true):=λ⟨n,v⟩ hy=>by
  rcases S.par n (JE hy).1 with q | q
  ·exact .inl q
  ·exact .inr ⟨q,xF _ _ _ (.inl q)⟩
 refine codeAny_call_function hr.depth (KX _ _ lk) rfl S.co S.gen rfl (PySem.W.codeRec_of KX hcd) (hb _ _ _ _ ?_);refine wpAny_newFunctionEnv_cells S.kind hkind λenv he s1 x=>?_
 subst he;refine ⟨lim.keeps x.toInCall.keep,codeAny_func ?_⟩;obtain ⟨t,ht,hq⟩:=hbody A outer s H vs Q E (hr.deeper _) hsp;have I:Inv (GK CX P w K mg base N qual scope f cdv A outer s H E) [] (start N vs) H s1:=GA S hr.hd e0 hl r x;refine wpAny_mono (ht [] s1 (start N vs) H _ I hq) (λfl s' hs=>?_) λe s' hs=>hs
 have fin:∀{σ':St} {H':Hp} {v:V} {u:Value},Inv (GK CX P w K mg base N qual scope f cdv A outer s H E) [] σ' H' s'->RelV v u->Q v H'->CE outer P w H s Q u s' :=
  λ{σ' H' v u} J rv q=>⟨v,H',J.os,J.bare,J.base,J.hok,rv,q⟩
 cases fl with
 | ret u =>
  obtain ⟨v,σ',H',J,rv,q⟩:=hs;exact fin J rv q
 | next =>
  obtain ⟨σ',H',J,q⟩:=hs;exact fin (v:=V.non) (u:=Value.none) J rfl q
 | brk =>
  obtain ⟨_,_,_,q⟩:=hs;exact False.elim q
 | cont =>
  obtain ⟨_,_,_,q⟩:=hs;exact False.elim q
section
variable {X:Cx} {x:Str} {p pos:Pos} {e:Expr} {es:List Expr} {t:TA} {id T:String} {r:List V->Hp->VK->Prop}
def O6 (r:List V->Hp->VK->Prop) (t:TA):TE:=λσ H Q=>t σ H λvs H1=>r vs H1 Q
theorem bL (hc:p5 X (.builtin id) r) (hg:Gl X x) (hm:X.mg x=none) (hv:bootBuiltins x=some (.builtin id)) (ha:PA X (e :: es) t) (hn:x≠"__name__":=by decide) (hdb:(x == ("__debug__":Str))=false:=by decide)
  (he:starEach (e :: es) X.env=(false,eval e X.env) :: starEach es X.env:=by rfl) (hpl:(backTo pos (starEach es X.env)).any (·.1)=false:=by rfl):PE X (.Call (.Name x p) (e :: es) [] pos) (O6 r t):=by
 intro pins s σ H Q I h;refine wpAny_Call_Name_kw (jc I hg hm hv ?_ hn hdb);exact PyProof.Rows.callWith_builtin1 (fz (ha pos pins s σ H _ I h) λus s1 ⟨vs,H1,I1,r1,q1⟩=>hc pins s1 σ H1 vs us Q I1 r1 q1) he hpl
theorem eX (hc:p5 X (.type T) r) (hg:Gl X x) (hm:X.mg x=none) (hv:bootBuiltins x=some (.type T)) (ha:PA X (e :: es) t) (hn:x≠"__name__":=by decide) (hdb:(x == ("__debug__":Str))=false:=by decide)
  (he:starEach (e :: es) X.env=(false,eval e X.env) :: starEach es X.env:=by rfl) (hpl:(backTo pos (starEach es X.env)).any (·.1)=false:=by rfl):PE X (.Call (.Name x p) (e :: es) [] pos) (O6 r t):=by
 intro pins s σ H Q I h;refine wpAny_Call_Name_kw (jc I hg hm hv ?_ hn hdb);exact PyProof.Rows.callWith_type1 (fz (ha pos pins s σ H _ I h) λus s1 ⟨vs,H1,I1,r1,q1⟩=>hc pins s1 σ H1 vs us Q I1 r1 q1) he hpl
end
end L2
namespace HT
open PySem PyProof.Rows
section
open PySem.SeqAt
open PySem.AutoSeq1 (wpAny_loadPart')
open PySem.MeetsSeq PySem.MeetsSeq2 PySem.MeetsSeq3
end
section
variable {prog:Program} {w:World} {A:Around} {E:Value->Shared->Prop} {s:Shared}
def C4 (n d:Nat):Option Int->Nat
 | none=>d
 | some v=>if v < 0 then (v+(n:Int)).toNat else min v.toNat n
theorem ye (n d:Nat):C4 n d none=d:=rfl
theorem Bw (n d k:Nat):C4 n d (some (k:Int))=min k n:=by
 show (if (k:Int) < 0 then ((k:Int)+(n:Int)).toNat else min (k:Int).toNat n)=min k n
 rw[if_neg (by lia),Int.toNat_natCast]
end
end HT
namespace L2
open PySem PySem.Spec PyProof.Rows
abbrev TO:=St->Hp->(Option Int->Hp->Prop)->Prop
def PO (X:Cx) (e:Option Expr) (t:TO):Prop :=
 ∀(pins:List (Addr×Obj)) (s:Shared) (σ:St) (H:Hp) (Q:Option Int->Hp->Prop),Inv X pins σ H s->t σ H Q →
  wpAny (model X.prog X.w) X.A (evalPart e X.env) (λu s'=>∃o H',Inv X pins σ H' s'/\IsPart u o/\Q o H') X.xe s
def EJ:TO:=λ_ H Q=>Q none H
def Lc (t:TE):TO:=λσ H Q=>t σ H λx H1=>∃i,x=.int i/\Q (some i) H1
theorem intsAre_of:∀{us:List Value},cC (ns.map V.int) us->IntsAre us ns:=by
 induction ns with
 | nil=>intro us r;rw[List.map_nil] at r;cases r;exact .nil
 | cons n ns ih =>
  intro us r;rw[fJ] at r;cases r with
  | cons r1 r2 =>
   obtain ⟨t,e⟩:=r1;subst e;exact .cons n t (ih r2)
section
variable {X:Cx} {e:Expr} {te:TE} {lo hi:Option Expr} {tl th:TO} {pos p2:Pos}
theorem tm:PO X none EJ:=by
 intro pins s σ H Q I h;rw[evalPart_none];exact wpAny_pure ⟨none,H,I,.none,h⟩
theorem tj (h:PE X e te):PO X (some e) (Lc te):=by
 intro pins s σ H Q I hw;rw[evalPart_some];refine fz (h pins s σ H _ I hw) λu s1 ⟨x,H1,I1,r1,q1⟩=>?_
 obtain ⟨i,rfl,q⟩:=q1;obtain ⟨t,rfl⟩:=r1;exact ⟨some i,H1,I1,.int i t,q⟩
def Pq (X:Cx) (r:V->Option Int->Option Int->Hp->VK->Prop):Prop :=
 ∀(pins:List (Addr×Obj)) (s:Shared) (σ:St) (H:Hp) (x:V) (v vl vu:Value) (lo hi:Option Int) (sl:Addr) (Q:VK),Inv X pins σ H s->RelV x v->s.heap.IsSliceOf sl vl vu .none->IsPart vl lo->IsPart vu hi->r x lo hi H Q →
  ∃T id,typeLookup (.type T) "__getitem__"=pure (some (.builtin id))/\s.TypeIs v T/\wpAny (model X.prog X.w) X.A (getItem v (.ref sl)) (EP X pins σ Q) X.xe s
def tSl (r:V->Option Int->Option Int->Hp->VK->Prop) (te:TE) (tl th:TO):TE:=λσ H Q=>te σ H λx H1=>tl σ H1 λl H2=>th σ H2 λu H3=>r x l u H3 Q
theorem pK (hr:Pq X r) (he:PE X e te) (hl:PO X lo tl) (hu:PO X hi th):PE X (.Subscript e (.Slice lo hi none p2) pos) (tSl r te tl th):=by
 intro pins s σ H Q I h;refine Subscript_ (fz (he pins s σ H _ I h) λv s1 ⟨x,H1,I1,r1,q1⟩=>?_);refine wpAny_Slice (fz (hl pins s1 σ H1 _ I1 q1) λvl s2 ⟨l,H2,I2,pl,q2⟩=>fz (hu pins s2 σ H2 _ I2 q2) λvu s3 ⟨u,H3,I3,pu,q3⟩=>?_);rw[evalPart_none];refine wpAny_pure ?_;have I4:Inv X pins σ H3 { s3 with heap:=s3.heap.push { cls:=.type "slice",data:=.fields #[vl,vu,.none] } }:=I3.kept (t':=s3.toks) λb ob q=>Heap.get?_push_of_some _ q
 obtain ⟨T,id,hT,ht,hg⟩:=hr pins { s3 with heap:=s3.heap.push { cls:=.type "slice",data:=.fields #[vl,vu,.none] } } σ H3 x v vl vu l u s3.heap.objs.size Q I4 r1 (Heap.IsSliceOf.new ..) pl pu q3;show wpAny (model X.prog X.w) X.A (subscriptTail e (.Slice lo hi none p2) v (.ref s3.heap.objs.size)) (EP X pins σ Q) X.xe { s3 with heap:=s3.heap.push { cls:=.type "slice",data:=.fields #[vl,vu,.none] } }
 exact tail_any (ops:=[.ref s3.heap.objs.size,v]) ht hT hg (by with_unfolding_all rfl)
def qj (xs:List V) (lo hi:Option Int):List V:=(xs.drop (HT.C4 xs.length 0 lo)).take (HT.C4 xs.length xs.length hi - HT.C4 xs.length 0 lo)
theorem wo (xs:List V) (lo hi:Option Int):(qj xs lo hi).length<=xs.length:=by
 unfold qj;rw[cN,List.length_drop]
 lia
end
def GU (n:Nat) (i:Int):Option Nat:=if 0<=i then (if i < n then some i.toNat else none) else if -(n:Int)<=i then some (i+n).toNat else none
def Ez {α:Type} (xs:List α) (i:Int):Option α:=(GU xs.length i).bind λj=>xs[j]?
theorem Fp (h:GU n i=some j):seqIndex? i n=some j/\j < n/\-(n:Int)<=i/\i < n:=by
 unfold GU at h;by_cases h0:0<=i
 ·rw[if_pos h0] at h;by_cases h1:i < n
  ·rw[if_pos h1] at h;have e:i.toNat=j:=cf h;exact ⟨by rw[seqIndex_of h0 h1,e],by lia,by lia,h1⟩
  ·rw[if_neg h1] at h;cases h
 ·rw[if_neg h0] at h;by_cases h1:-(n:Int)<=i
  ·rw[if_pos h1] at h;have e:(i+n).toNat=j:=cf h;exact ⟨by rw[seqIndex_neg (by lia) h1,e],by lia,h1,by lia⟩
  ·rw[if_neg h1] at h;cases h
theorem Cn {xs:List α} {v:α} (h:Ez xs i=some v):∃j,seqIndex? i xs.length=some j/\xs[j]?=some v/\j < xs.length/\-(xs.length:Int)<=i/\i < xs.length:=by
 unfold Ez at h;cases e:GU xs.length i with
 | none=>rw[e] at h;cases h
 | some j =>
  rw[e] at h;obtain ⟨h1,h2,h3,h4⟩:=Fp e;exact ⟨j,h1,h,h2,h3,h4⟩
theorem dS {xs:List α} {j:Nat} {v:α} (h:xs[j]?=some v):Ez xs (j:Int)=some v:=by
 have hj:j < xs.length:=(aB.mp h).1
 have e:GU xs.length (j:Int)=some j:=by
  unfold GU;rw[if_pos (by lia),if_pos (by lia)];simp
 unfold Ez;rw[e];exact h
theorem zb (xs:List α) (v:α):Ez (xs++[v]) (-1)=some v:=by
 have hl:(xs++[v]).length=xs.length+1:=by simp
 have e:GU (xs++[v]).length (-1)=some xs.length:=by
  unfold GU;rw[hl,if_neg (by decide),if_pos (by lia)];congr 1
  lia
 unfold Ez;rw[e];show (xs++[v])[xs.length]?=some v
 simp
def K3 (b:Expr):Prop:=∀o i,subscripted b false o i=operate [o,i] (getItem o i)
def OQ (X:Cx) (r:R2):Prop :=
 ∀(value slice:Expr) (pins:List (Addr×Obj)) (s:Shared) (σ:St) (H:Hp) (x y:V) (v u:Value) (Q:VK),Inv X pins σ H s->RelV x v->RelV y u->r x y H Q →
  subscripted slice false v u=operate [v,u] (getItem v u)->wpAny (model X.prog X.w) X.A (subscriptTail value slice v u) (EP X pins σ Q) X.xe s
def MtR (X:Cx) (id:String) (r:V->List V->Hp->VK->Prop):Prop :=
 ∀(pins:List (Addr×Obj)) (s:Shared) (σ:St) (H:Hp) (x:V) (xs:List V) (v:Value) (us:List Value) (Q:VK),Inv X pins σ H s->RelV x v->cC xs us->r x xs H Q →
  wpAny (model X.prog X.w) X.A (call (.builtin id) (v :: us)) (EP X pins σ Q) X.xe s
section
variable {X:Cx} {a b:Expr} {ta tb:TE} {pos:Pos}
theorem aZ {r:R2} (hr:OQ X r) (ha:PE X a ta) (hb:PE X b tb) (hs:K3 b:=by intro _ _;rfl):PE X (.Subscript a b pos) (NM r ta tb):=by
 intro pins s σ H Q I h;exact Subscript_ (Nf ha hb I h λv u s2 x y H2 I2 rx ry q=>hr a b pins s2 σ H2 x y v u Q I2 rx ry q (hs _ _))
def MF (K:FG9):R2:=λx y H Q=>∃p xs i v,x=.ref p/\y=.int i/\bO K H p xs/\Ez xs i=some v/\Q v H
def ME (K:FG9):R2:=λx y H Q=>∃p xs i v,x=.ref p/\y=.int i/\kD K H p xs/\Ez xs i=some v/\Q v H
theorem bS:OQ X (MF X.K):=by
 intro value slice pins s σ H x y v u Q I rx ry h hs;obtain ⟨p,xs,i,z,rfl,rfl,hq,he,q⟩:=h;cases rx;obtain ⟨t,rfl⟩:=ry;obtain ⟨its,r,pl,hz⟩:=I.list hq;obtain ⟨j,h1,h2,h3,h4,h5⟩:=Cn he;obtain ⟨w,ew,rw'⟩:=r.get h2;have hl:=r.length;have hn:=yL;have fin:EP X pins σ Q w s:=⟨z,H,I,rw',q⟩;by_cases h0:0<=i
 ·have hj:i.toNat=j:=by
   rw[seqIndex_of h0 h5] at h1;exact cf h1
  exact item_listR pl.isList h0 (by lia) (by rw[hj];simpa using ew) fin hs
 ·have hj:(i+(its.toArray.size:Int)).toNat=j:=by
   rw[seqIndex_neg (by lia) h4] at h1;rw[aL,<- hl];exact cf h1
  exact subscriptTail_builtinR (x:=w) pl.isList.typeIs slot_list_getitem.lookup
   (wpAny_getItem_list_neg (Q:=λr s'=>r=w/\EP X pins σ Q r s') pl.isList (by lia) (by rw[aL] <;> lia) (by lia) (by rw[hj];simpa using ew) ⟨rfl,fin⟩) hs
theorem bU:OQ X (ME X.K):=by
 intro value slice pins s σ H x y v u Q I rx ry h hs;obtain ⟨p,xs,i,z,rfl,rfl,hq,he,q⟩:=h;cases rx;obtain ⟨t,rfl⟩:=ry;obtain ⟨its,r,pl,hz⟩:=I.tuple hq;obtain ⟨j,h1,h2,h3,h4,h5⟩:=Cn he;obtain ⟨w,ew,rw'⟩:=r.get h2;have hl:=r.length;have hn:=yL;have fin:EP X pins σ Q w s:=⟨z,H,I,rw',q⟩
 exact subscriptTail_builtinR (x:=w) pl.typeIs slot_tuple_getitem.lookup
  (getItem_tuple (j:=j) (Q:=λr s'=>r=w/\EP X pins σ Q r s') pl (by lia) (by lia) (by rw[aL,<- hl];exact h1) (by simpa using ew) ⟨rfl,fin⟩) hs
theorem Ek (its:List Value) (n j:Nat) (u:Value):Obj.mapSeq (·.setIfInBounds j u) { cls:=.type "list",data:=.seq its.toArray n }={ cls:=.type "list",data:=.seq (its.set j u).toArray n }:=by
 simp [Obj.mapSeq]
theorem Inv.lst {pins:List (Addr×Obj)} {σ:St} {H:Hp} {s:Shared} {p:Addr} {xs:List V} (I:Inv X pins σ H s) (h:H p=some (.lst xs)) :
  ∃(its:List Value) (n:Nat),cC xs its/\s.heap.get? p=some { cls:=.type "list",data:=.seq its.toArray n }/\xs.length<=sizeLine:=by
 obtain ⟨z,its,n,r,e⟩:=I.hok p _ h;exact ⟨its,n,r,e,z⟩
theorem Inv.lstUpd {σ:St} {its its':List Value} (I:Inv X pins σ H s) (h:H p=some (.lst xs))
  (ho:s.heap.get? p=some { cls:=.type "list",data:=.seq its.toArray n }) (hf:f { cls:=.type "list",data:=.seq its.toArray n }={ cls:=.type "list",data:=.seq its'.toArray n' }) (r:cC ys its') (hz:ys.length<=sizeLine) (t:Nat) :
  Inv X pins σ (upd H p (.lst ys)) { s with heap:=s.heap.update p f,toks:=t }:=by
 have e:(s.heap.update p f).get? p=some { cls:=.type "list",data:=.seq its'.toArray n' }:=by
  rw[Heap.get?_update_self f ho (by rw[hf] <;> rfl),hf]
 refine I.write (x:=p) (e:=p) (by rw[h];trivial) (.inl rfl) (λb u hb q=>(Heap.get?_update_other _ _ (Ne.symm hb)).trans q) ⟨_,e⟩ ?_;exact ⟨hz,its',n',r,e⟩
def Lr:V->V->V->Hp->(Hp->Prop)->Prop:=λo i v H Q=>∃p xs k j,o=.ref p/\i=.int k/\H p=some (.lst xs)/\GU xs.length k=some j/\Q (upd H p (.lst (xs.set j v)))
theorem set_list:Ni X Lr:=by
 intro pins s σ H o i v ov iv u Q I ro ri rv h;obtain ⟨p,xs,k,j,rfl,rfl,hp,hj,q⟩:=h;cases ro;obtain ⟨t,rfl⟩:=ri;obtain ⟨its,n,r,ho,hz⟩:=I.lst hp;obtain ⟨h1,h2,h3,h4⟩:=Fp hj;have hl:=r.length;have hn:=yL
 have I':Inv X pins σ (upd H p (.lst (xs.set j v))) { s with heap:=s.heap.update p (Obj.mapSeq (·.setIfInBounds j u)) } :=
  I.lstUpd hp ho (Ek its n j u) (r.set rv j) (by rw[dQ];exact hz) s.toks
 by_cases h0:0<=k
 ·have hk:k.toNat=j:=by
   rw[seqIndex_of h0 h4] at h1;exact cf h1
  exact PySem.W.ki_setAt ho h0 (by lia) (by rw[aL,<- hl];exact h4) (by rw[hk];exact ⟨_,I',q⟩)
 ·have hk:(k+(its.toArray.size:Int)).toNat=j:=by
   rw[seqIndex_neg (by lia) h3] at h1;rw[aL,<- hl];exact cf h1
  exact PySem.W.ki_setBack ho (by lia) (by rw[aL,<- hl];exact h3) (by lia) (by rw[hk];exact ⟨_,I',q⟩)
theorem Bf (lo hi:Option Int) (n:Nat):(sliceBounds lo hi none n).1=((HT.C4 n 0 lo:Nat):Int)/\(sliceBounds lo hi none n).2.1=((HT.C4 n n hi:Nat):Int)/\(sliceBounds lo hi none n).2.2=1:=by
 refine ⟨?_,?_,rfl⟩
 ·cases lo with
  | none=>simp [sliceBounds,HT.C4]
  | some i =>
   simp only[sliceBounds,HT.C4,Option.getD_none,show (1:Int) > 0 by decide,if_true];by_cases h:i < 0
   ·simp only[h,if_true] <;> lia
   ·simp only[h,if_false] <;> lia
 ·cases hi with
  | none=>simp [sliceBounds,HT.C4]
  | some i =>
   simp only[sliceBounds,HT.C4,Option.getD_none,show (1:Int) > 0 by decide,if_true];by_cases h:i < 0
   ·simp only[h,if_true] <;> lia
   ·simp only[h,if_false] <;> lia
theorem zE (its:List Value) (lo hi:Option Int):slicePick its.toArray lo hi none=((its.drop (HT.C4 its.length 0 lo)).take (HT.C4 its.length its.length hi - HT.C4 its.length 0 lo)).toArray:=by
 obtain ⟨h1,h2,h3⟩:=Bf lo hi its.toArray.size;unfold slicePick;rw[h1,h2,h3];simp only[sliceRange_one,pick_run,aL] <;> rfl
def MC (K:FG9):V->Option Int->Option Int->Hp->VK->Prop:=λx lo hi H Q=>∃a xs,x=.ref a/\bO K H a xs/\∀p,H p=none->Q (.ref p) (upd H p (.lst (qj xs lo hi)))
theorem Bg:Pq X (MC X.K):=by
 intro pins s σ H x v vl vu lo hi sl Q I rx hs pl pu h;obtain ⟨a,xs,rfl,hx,q⟩:=h;cases rx;obtain ⟨its,r,ht,hz⟩:=I.list hx;have hlen:=r.length;refine ⟨"list",_,slot_list_getitem.lookup,ht.isList.typeIs,?_⟩;refine wpAny_getItem_list_slice ht.isList hs pl pu .none (by simp) ?_ (by rw[aL] <;> lia);rw[zE,<- hlen];refine ⟨.ref s.heap.objs.size,_,I.laid (t':=s.toks) (o:=.lst (qj xs lo hi)) (λb ob q=>Heap.get?_push_of_some _ q) (ak _) ?_,rfl,q _ (I.hok.fresh (ak _))⟩;exact ⟨ai (wo xs lo hi) hz,_,0,(r.drop (HT.C4 xs.length 0 lo)).take (HT.C4 xs.length xs.length hi - HT.C4 xs.length 0 lo),Heap.get?_push_size _ rfl⟩
def tT:V->Bool
 | .non=>true
 | .bl _=>true
 | .int _=>true
 | .str _=>true
 | _=>false
def LJ:V->V->Bool
 | .non,.non=>true
 | .bl a,.bl b=>a == b
 | .bl a,.int b=>(if a then 1 else 0) == b
 | .int a,.bl b=>a == (if b then 1 else 0)
 | .int a,.int b=>a == b
 | .str a,.str b=>a == b
 | _,_=>false
theorem Na (ry:RelV y u) (rx:RelV x v) (fy:tT y=true) (fx:tT x=true):SeqAt.EqAt A s u v (LJ y x):=by
 cases y with
 | non =>
  cases ry;cases x with
  | non=>cases rx;exact SeqAt.EqAt.same _
  | bl b=>cases rx;exact SeqAt.EqAt.none_bool b
  | int b=>obtain ⟨t,rfl⟩:=rx;exact SeqAt.EqAt.none_int b t
  | str b=>obtain ⟨t,rfl⟩:=rx;exact SeqAt.EqAt.none_str b t
  | _=>exact absurd (show false=true from fx) a9
 | bl a =>
  cases ry;cases x with
  | non=>cases rx;exact SeqAt.EqAt.bool_none a
  | bl b=>cases rx;exact SeqAt.EqAt.bool_bool a b
  | int b=>obtain ⟨t,rfl⟩:=rx;exact SeqAt.EqAt.bool_int a b t
  | str b=>obtain ⟨t,rfl⟩:=rx;exact SeqAt.EqAt.bool_str a b t
  | _=>exact absurd (show false=true from fx) a9
 | int a =>
  obtain ⟨t',rfl⟩:=ry;cases x with
  | non=>cases rx;exact SeqAt.EqAt.int_none a t'
  | bl b=>cases rx;exact SeqAt.EqAt.int_bool a t' b
  | int b=>obtain ⟨t,rfl⟩:=rx;exact SeqAt.EqAt.int_int a t' b t
  | str b=>obtain ⟨t,rfl⟩:=rx;exact SeqAt.EqAt.int_str a t' b t
  | _=>exact absurd (show false=true from fx) a9
 | str a =>
  obtain ⟨t',rfl⟩:=ry;cases x with
  | non=>cases rx;exact SeqAt.EqAt.str_none a t'
  | bl b=>cases rx;exact SeqAt.EqAt.str_bool a t' b
  | int b=>obtain ⟨t,rfl⟩:=rx;exact SeqAt.EqAt.str_int a t' b t
  | str b=>obtain ⟨t,rfl⟩:=rx;exact SeqAt.EqAt.str_str a t' b t
  | _=>exact absurd (show false=true from fx) a9
 | _=>exact absurd (show false=true from fy) a9
def KO (x:V) (u:Value):Bool:=match u with
 | .none=>LJ .non x
 | .bool b=>LJ (.bl b) x
 | .int i _=>LJ (.int i) x
 | .str z _=>LJ (.str z) x
 | _=>false
theorem Ji (r:RelV y u) (f:tT y=true):KO x u=LJ y x:=by
 cases y with
 | non=>cases r;rfl
 | bl b=>cases r;rfl
 | int i=>obtain ⟨t,rfl⟩:=r;rfl
 | str z=>obtain ⟨t,rfl⟩:=r;rfl
 | _=>exact absurd (show false=true from f) a9
theorem Cp {x:V}:∀{xs:List V} {us:List Value},cC xs us->xs.all tT=true->us.any (KO x)=xs.any λy=>LJ y x
 | _,_,.nil,_=>rfl
 | y :: xs,u :: us,.cons r t,f=>by
  rw[NC,du] at f;rw[List.any_cons,List.any_cons,Ji r f.1,Cp t f.2]
theorem yH {A:Around} {s:Shared} {x:V} {v:Value} (rx:RelV x v) (fx:tT x=true):∀{xs:List V} {us:List Value},cC xs us->xs.all tT=true->∀u∈us,SeqAt.EqAt A s u v (KO x u)
 | _,_,.nil,_=>λu hu=>by cases hu
 | y :: xs,u :: us,.cons r t,f=>λu' hu=>by
  rw[NC,du] at f;rcases aE.mp hu with rfl | hu
  ·rw[Ji r f.1];exact Na r rx f.1 fx
  ·exact yH rx fx t f.2 u' hu
def OZ (x:V) (xs:List V):Bool:=xs.any λy=>LJ y x
def rIn (K:FG9) (neg:Bool):R2:=λx y H Q=>∃p xs,y=.ref p/\(bO K H p xs\/kD K H p xs)/\tT x=true/\xs.all tT=true/\Q (.bl (if neg then !OZ x xs else OZ x xs)) H
theorem BF:vK X (compareOp .NotIn) (rIn X.K true):=by
 intro pins s σ H x y v u Q I rx ry h;obtain ⟨p,xs,rfl,hq,fx,fs,q⟩:=h;cases ry;rcases hq with hq | hq
 ·obtain ⟨its,r,pl,hz⟩:=I.list hq;refine SeqAt.notIn_listAt (KO x) pl.isList (λw hw=>yH rx fx r fs w (by simpa using hw)) ⟨.bl _,H,I,rfl,?_⟩;rw[show its.toArray.any (KO x)=its.any (KO x) by simp,Cp r fs];exact q
 ·obtain ⟨its,r,pl,hz⟩:=I.tuple hq;refine SeqAt.notIn_tupleAt (KO x) pl (λw hw=>yH rx fx r fs w (by simpa using hw)) ⟨.bl _,H,I,rfl,?_⟩;rw[show its.toArray.any (KO x)=its.any (KO x) by simp,Cp r fs];exact q
theorem be:p5 X (.builtin "len") (λxs H Q=>∃p ys,xs=[.ref p]/\(bO X.K H p ys\/kD X.K H p ys)/\Q (.int ys.length) H):=by
 intro pins s σ H xs us Q I r h;obtain ⟨p,ys,rfl,hq,q⟩:=h;obtain ⟨u,rfl,rx⟩:=vals1 r;cases rx;have hn:=yL;rcases hq with hq | hq
 ·obtain ⟨its,r',pl,hz⟩:=I.list hq;have hlen:=r'.length;exact Calls.call_len_list pl.isList (by simp only[aL] <;> lia) ⟨.int ys.length,H,I.tok _,⟨s.toks+1,by rw[aL,hlen]⟩,q⟩
 ·obtain ⟨its,r',pl,hz⟩:=I.tuple hq;have hlen:=r'.length;exact len_tuple pl (by simp only[aL] <;> lia) ⟨.int ys.length,H,I.tok _,⟨s.toks+1,by rw[aL,hlen]⟩,q⟩
theorem uj:p5 X (.type "list") (λxs H Q=>∃p ys,xs=[.ref p]/\(bO X.K H p ys\/kD X.K H p ys)/\∀l,H l=none->Q (.ref l) (upd H l (.lst ys))):=by
 intro pins s σ H xs us Q I r h;obtain ⟨p,ys,rfl,hq,q⟩:=h;obtain ⟨u,rfl,rx⟩:=vals1 r;cases rx
 have fin:∀(its:List Value),cC ys its->ys.length<=sizeLine->∀(h':Heap) (c':Nat),(∀b o',s.heap.get? b=some o'->h'.get? b=some o') →
   h'.get? s.heap.objs.size=some { cls:=.type "list",dict:=none,data:=.seq its.toArray c',slots:=#[] }->EP X pins σ Q (.ref s.heap.objs.size) { s with heap:=h' }:=λits r' hz h' c' kp e =>
  ⟨.ref s.heap.objs.size,_,I.laid (t':=s.toks) kp (ak _) (show gZ X.prog X.w _ h' _ (.lst ys) from ⟨hz,its,c',r',e⟩),rfl,q _ (I.hok.fresh (ak _))⟩
 rcases hq with hq | hq
 ·obtain ⟨its,r',pl,hz⟩:=I.list hq;have hlen:=r'.length;obtain ⟨o,ho,hc,n,hd⟩:=pl.isList;exact call_list_seq p (.inl rfl) ho hc hd (λh' c' kp e=>fin its r' hz h' c' kp e) (by simp only[aL] <;> lia)
 ·obtain ⟨its,r',pl,hz⟩:=I.tuple hq;have hlen:=r'.length;obtain ⟨o,ho,hc,n,hd⟩:=pl;exact call_list_seq p (.inr rfl) ho hc hd (λh' c' kp e=>fin its r' hz h' c' kp e) (by simp only[aL] <;> lia)
def O5 (K:FG9) (T:String) (x:V) (H:Hp):Prop:=match x with
 | .str _=>T="str"
 | .int _=>T="int"
 | .ref p=>(T="list"/\∃xs,bO K H p xs)\/(T="tuple"/\∃o,K.lookup p=some o/\o.cls=.type "tuple"/\o.dict=none) \/
   (T="dict"/\((∃kvs,H p=some (.dK kvs))\/∃kvs,H p=some (.dT kvs)))\/(T="set"/\∃S n,H p=some (.set S n))
 | _=>False
theorem L6 {σ:St} (I:Inv X pins σ H s) (r:RelV x v) (ty:O5 X.K T x H) :
  s.TypeIs v T/\∀a,v=.ref a->∃ob,s.heap.get? a=some ob/\ob.dict=none:=by
 cases x with
 | str z =>
  obtain ⟨t,rfl⟩:=r;cases (show T="str" from ty);exact ⟨typeIs_str s z t,λ_ e=>nomatch e⟩
 | int i =>
  obtain ⟨t,rfl⟩:=r;cases (show T="int" from ty);exact ⟨typeIs_int s i t,λ_ e=>nomatch e⟩
 | ref p =>
  cases r;rcases ty with ⟨rfl,xs,hq⟩ | ⟨rfl,o,hk,hc,hd⟩ | ⟨rfl,hk⟩ | ⟨rfl,S,n,hk⟩
  ·obtain ⟨its,_,pl,_⟩:=I.list hq;refine ⟨pl.isList.typeIs,λa e=>?_⟩;cases e;obtain ⟨o,n,e,c,hd,_⟩:=pl;exact ⟨o,e,hd⟩
  ·refine ⟨⟨o,I.kIn p o hk,hc⟩,λa e=>?_⟩;cases e;exact ⟨o,I.kIn _ o hk,hd⟩
  ·have z:∃o,s.heap.get? p=some o/\o.ExactDict:=by
    rcases hk with ⟨kvs,hk⟩ | ⟨kvs,hk⟩
    ·obtain ⟨_,_,_,_,o,_,_,e,ex,_⟩:=I.hok p _ hk;exact ⟨o,e,ex⟩
    ·obtain ⟨_,_,_,_,o,_,_,e,ex,_⟩:=I.hok p _ hk;exact ⟨o,e,ex⟩
   obtain ⟨o,e,ex⟩:=z;refine ⟨⟨o,e,ex.1⟩,λa e2=>?_⟩;cases e2;exact ⟨o,e,ex.2.1⟩
  ·obtain ⟨o,_,_,_,e,ex,_⟩:=I.hok p _ hk;refine ⟨⟨o,e,ex.1⟩,λa e2=>?_⟩;cases e2;exact ⟨o,e,ex.2.1⟩
 | _=>exact False.elim ty
def O7 (K:FG9) (T:String) (r:V->List V->Hp->VK->Prop) (to:TE) (t:TA):TE:=λσ H Q=>to σ H λx H1=>O5 K T x H1/\t σ H1 λxs H2=>r x xs H2 Q
variable {o e:Expr} {es:List Expr} {to:TE} {t:TA} {name:Str} {apos cpos:Pos} {T id:String} {r:V->List V->Hp->VK->Prop}
theorem tx (pa:PlainAttrs T) (slot:Slot T name id) (hty:typeOf (.builtin id)=pure (.type "method_descriptor")) (hm:MtR X id r) (ho:PE X o to) (ha:PA X (e :: es) t)
  (hbase:attributeBase o name X.env (eval o X.env)=eval o X.env:=by rfl)
  (hfew:((backTo cpos (starEach (e :: es) X.env)).all (λx=>!x.1) && (backToKw cpos (keywordEach [] X.env)).all (λx=>x.1.isSome)
   && decide ((e :: es).length+([]:List Keyword).length+(if ([]:List Keyword).isEmpty then 0 else 1) < 30))=true:=by rfl)
  (hline:(apos.endLine == cpos.line)=true:=by rfl) (hs:starEach (e :: es) X.env=(false,eval e X.env) :: starEach es X.env:=by rfl) (hplain:(backTo cpos (starEach es X.env)).any (·.1)=false:=by rfl) :
  PE X (.Call (.Attribute o name apos) (e :: es) [] cpos) (O7 X.K T r to t):=by
 intro pins s σ H Q I h;refine wpAny_Call_method_late hbase hfew hline rfl (fz (ho pins s σ H _ I h) λv s1 ⟨x,H1,I1,r1,ty,q1⟩=>?_);obtain ⟨h1,h2⟩:=L6 I1 r1 ty;refine ⟨T,id,pa,slot,hty,h1,h2,?_⟩;have hA:=ha cpos pins s1 σ H1 _ I1 q1;rw[hs] at hA ⊢;refine Calls.callWith_builtin (by show (false || (backTo cpos (starEach es X.env)).any (·.1))=false;rw[hplain] <;> rfl) (Calls.evalArgs_plain ?_);exact fz hA λus s2 ⟨vs,H2,I2,r2,q2⟩=>hm pins s2 σ H2 x vs v us Q I2 r1 r2 q2
end
def Px (X:Cx) (id:String) (r:V->List V->Hp->VK->Prop):Prop :=
 ∀(pins:List (Addr×Obj)) (s:Shared) (σ:St) (H:Hp) (x:V) (xs:List V) (v:Value) (us:List Value) (Q:VK),Inv X pins σ H s->RelV x v->cC xs us->r x xs H Q →
  wpAny (model X.prog X.w) X.A (call (.builtin id) (v :: us)) (EP X pins σ Q) X.xe s
theorem cC.one:∀{x:V} {us:List Value},cC [x] us->∃u,us=[u]/\RelV x u
 | _,_,.cons r .nil=>⟨_,rfl,r⟩
theorem cC.eraseIdx:∀{xs:List V} {us:List Value} (i:Nat),cC xs us->cC (xs.eraseIdx i) (us.eraseIdx i)
 | _,_,_,.nil=>.nil
 | _,_,0,.cons _ t=>t
 | _,_,i+1,.cons r t=>.cons r (cC.eraseIdx i t)
theorem cC.rep {xs:List V} {us:List Value} (h:cC xs us):∀k:Nat,cC (List.replicate k xs).flatten (List.replicate k us).flatten
 | 0=>.nil
 | k+1=>by
  rw[jH,jH,iK,iK];exact cC.append h (cC.rep h k)
theorem Ai {α:Type}:∀(l:List α) (i:Nat),(l.eraseIdx i).length<=l.length
 | [],_=>ak _
 | _ :: _,0=>oJ _
 | _ :: r,i+1=>de (Ai r i)
theorem foldl_rep (its:List Value):∀(k:Nat) (acc:List Value),
  List.foldl (λx1 x2=>x1++x2) acc.toArray (List.replicate k its.toArray)=(acc++(List.replicate k its).flatten).toArray
 | 0,acc=>by simp
 | k+1,acc=>by
  have e:acc.toArray++its.toArray=(acc++its).toArray:=by simp
  have e2:(acc++its)++(List.replicate k its).flatten=acc++(List.replicate (k+1) its).flatten:=by
   rw[jH,iK,b8]
  rw[<- e2,<- foldl_rep its k (acc++its),<- e,jH,List.foldl_cons]
section
variable {X:Cx} {pins:List (Addr×Obj)} {σ:St} {H:Hp} {s:Shared} {l b:Addr} {xs ys zs:List V}
theorem Inv.lset {its its':List Value} (I:Inv X pins σ H s) (hH:H l=some (.lst xs))
  (e:s.heap.get? l=some { cls:=.type "list",data:=.seq its.toArray n }) (hf:f its.toArray=its'.toArray) (hv:cC ys its') (hz:ys.length<=sizeLine) :
  Inv X pins σ (upd H l (.lst ys)) { s with heap:=s.heap.update l (Obj.mapSeq f),toks:=t' }:=by
 have q:=jv e f;rw[hf] at q;refine I.write (x:=l) (e:=l) (by rw[hH];exact trivial) (.inl rfl) (λb' u hb hu=>(Heap.get?_update_other s.heap (Obj.mapSeq f) (Ne.symm hb)).trans hu) ⟨_,q⟩ ?_;exact ⟨hz,its',_,hv,q⟩
theorem Inv.lnew (I:Inv X pins σ H s) (hv:cC ys its) (hz:ys.length<=sizeLine) :
  Inv X pins σ (upd H s.heap.objs.size (.lst ys)) { s with heap:=s.heap.push { cls:=.type "list",data:=.seq its.toArray },toks:=t' } :=
 I.laid (λ_ _ q=>Heap.get?_push_of_some _ q) (ak _) ⟨hz,its,0,hv,Heap.get?_push_size _ rfl⟩
theorem Inv.fresh (I:Inv X pins σ H s):H s.heap.objs.size=none:=I.hok.fresh (ak _)
theorem Inv.lstM (I:Inv X pins σ H s) (hH:H l=some (.lst xs)):xs.length<=sizeLine/\∃(its:List Value) (n:Nat),cC xs its/\xs.length=its.length/\s.heap.get? l=some { cls:=.type "list",data:=.seq its.toArray n }:=by
 obtain ⟨z,its,n,r,e⟩:=I.hok l _ hH;exact ⟨z,its,n,r,r.length,e⟩
theorem Iv (h:n<=sizeLine):Builtin.List.listTooLong n=false:=by
 unfold Builtin.List.listTooLong;exact decide_eq_false (by lia)
end
section
variable {X:Cx}
def E7:V->List V->Hp->VK->Prop:=λx vs H Q=>∃l xs y,x=.ref l/\vs=[y]/\H l=some (.lst xs)/\xs.length < sizeLine/\Q .non (upd H l (.lst (xs++[y])))
theorem iZ:Px X "list.append" E7:=by
 intro pins s σ H x vs v us Q I rx rv h;obtain ⟨l,xs,y,rfl,rfl,hH,hz,q⟩:=h;cases rx;obtain ⟨u,rfl,ru⟩:=rv.one;obtain ⟨z,its,n,r,hl,e⟩:=I.lstM hH;refine call_meets F.slot_list_append ⟨_,e,rfl⟩ F.entry_list_append (F.args_list_append_2 _ _) (PySem.list_append l its.toArray n u (by rw[aL];lia)) ⟨e,?_⟩;refine ⟨.non,_,I.lset (its':=its++[u]) hH e (by simp) (r.append (.cons ru .nil)) ?_,rfl,q⟩;rw[av,bf]
 lia
def MD:V->List V->Hp->VK->Prop:=λx vs H Q=>∃l xs i k y,x=.ref l/\vs=[.int i]/\H l=some (.lst xs)/\-(2^63)<=i/\i < 2^63/\seqIndex? i xs.length=some k/\xs[k]?=some y/\Q y (upd H l (.lst (xs.eraseIdx k)))
theorem Iz:Px X "list.pop" MD:=by
 intro pins s σ H x vs v us Q I rx rv h;obtain ⟨l,xs,i,k,y,rfl,rfl,hH,h1,h2,hk,hy,q⟩:=h;cases rx;obtain ⟨u,rfl,ru⟩:=rv.one;obtain ⟨t,rfl⟩:=ru;obtain ⟨z,its,n,r,hl,e⟩:=I.lstM hH;obtain ⟨w,hw,rw'⟩:=r.get hy
 refine call_meets F.slot_list_pop ⟨_,e,rfl⟩ F.entry_list_pop (F.args_list_pop_2 _ _)
  (MeetsSeq.list_pop_at l its.toArray n i t k w (fitsIndex_both h1 h2) (by rw[aL,<- hl];exact hk) (by rw[<- Array.getElem?_toList];exact hw) (by rw[aL];lia)) ⟨e,?_⟩
 refine ⟨y,_,I.lset (its':=its.eraseIdx k) hH e ?_ (r.eraseIdx k) ?_,rw',q⟩
 ·show its.toArray.eraseIdxIfInBounds k=(its.eraseIdx k).toArray
  rw[List.eraseIdxIfInBounds_toArray]
 ·have:=Ai xs k
  lia
def Oq:R2:=λx y H Q=>∃l b xs zs,x=.ref l/\y=.ref b/\H l=some (.lst xs)/\H b=some (.lst zs)/\xs.length+zs.length<=sizeLine/\∀p,H p=none->Q (.ref p) (upd H p (.lst (xs++zs)))
theorem jN:vK X (binaryOp .Add) Oq:=by
 intro pins s σ H x y v u Q I rx ry h;obtain ⟨l,b,xs,zs,rfl,rfl,hH,hB,hz,q⟩:=h;cases rx;cases ry;obtain ⟨z,its,n,r,hl,e⟩:=I.lstM hH;obtain ⟨z2,its2,n2,r2,hl2,e2⟩:=I.lstM hB;refine PySem.P.add_list e e2 ?_ (by rw[aL,aL];lia);have ea:its.toArray++its2.toArray=(its++its2).toArray:=by simp
 rw[ea];exact ⟨.ref _,_,I.lnew (t':=s.toks) (r.append r2) (by rw[av];lia),rfl,q _ I.fresh⟩
def Om:R2:=λx y H Q=>∃l k xs,x=.ref l/\y=.int k/\H l=some (.lst xs)/\-(2^63)<=k/\k < 2^63/\xs.length*k.toNat<=sizeLine /\
 ∀p,H p=none->Q (.ref p) (upd H p (.lst (List.replicate k.toNat xs).flatten))
theorem len_rep {α:Type} (xs:List α) (k:Nat):(List.replicate k xs).flatten.length=k*xs.length:=by
 induction k with
 | zero=>simp
 | succ k ih=>rw[jH,iK,av,ih,jw,k6]
theorem Ed:vK X (binaryOp .Mult) Om:=by
 intro pins s σ H x y v u Q I rx ry h;obtain ⟨l,k,xs,rfl,rfl,hH,h1,h2,hz,q⟩:=h;cases rx;obtain ⟨t,rfl⟩:=ry;obtain ⟨z,its,n,r,hl,e⟩:=I.lstM hH;have hlen:its.toArray.size*k.toNat<=sizeLine:=by rw[aL,<- hl];exact hz
 have hcap:¬its.toArray.size*k.toNat > (2^63 - 1) / 8:=by
  have:(sizeLine:Nat)<=(2^63 - 1) / 8:=by decide
  lia
 have hfit:¬(!Builtin.List.listFitsIndex k)=true:=by
  rw[fitsIndex_both h1 h2];exact a9
 have hlong:¬Builtin.List.listTooLong (its.toArray.size*k.toNat)=true:=by
  rw[Iv hlen];exact a9
 have hnew:List.foldl (λx1 x2=>x1++x2) #[] (List.replicate (if its.toArray.isEmpty=true then 0 else k.toNat) its.toArray)=(List.replicate k.toNat its).flatten.toArray:=by
  have f0:∀m:Nat,List.foldl (λx1 x2=>x1++x2) #[] (List.replicate m its.toArray)=(List.replicate m its).flatten.toArray:=λm=>by
   have:=foldl_rep its m [];rw[cK] at this;exact this
  rw[f0];cases its with
  | nil=>simp
  | cons a r'=>rw[if_neg (by simp)]
 refine wpAny_binaryOp_repeat_ref (T:="list") (U:="int") (by decide) ⟨_,e,rfl⟩ (λs'=>typeIs_int s' k t) noFill_list_mul F.fills_int_mul F.slot_int_rmul repeat_list F.slot_int_index.lookup
  (call_meets F.slot_int_rmul (typeIs_int s k t) F.entry_int_rmul (F.args_int_rmul_2 _ _) (int___rmul___int_list k t l its.toArray n)
   ⟨e,rfl,⟨_,e,rfl⟩,call_meets F.slot_list_mul ⟨_,e,rfl⟩ F.entry_list_mul (F.args_list_mul_2 _ _) (AutoListH.list___mul___list_int_3 l its.toArray n k t hfit hcap hlong) ⟨e,?_⟩⟩)
 rw[hnew];exact ⟨.ref _,_,I.lnew (t':=s.toks) (r.rep k.toNat) (by rw[len_rep,cv];exact hz),rfl,q _ I.fresh⟩
end
end L2
namespace Att
open PySem PySem.W PySem.Calls PyProof.Rows
theorem xk:∀(ns:List Int) (vs:List Value),WellAll P h vs (ns.map WData.int)->IntsAre vs ns:=by
 intro ns
 induction ns with
 | nil =>
  intro vs w;rw[List.map_nil] at w;cases w;exact .nil
 | cons n ns ih =>
  intro vs w;rw[fJ] at w;cases w with
  | cons a b =>
   cases a;exact .cons _ _ (ih _ b)
theorem F6 {l:OpenLaw} (hn:l.most=some n) 
  (hpre:l.row.toRowW.claim.pre args=true) (hwl:WellAll P h vals args) :
  ∃a vs ns,vals=[Value.ref a]/\args=[WData.list (ns.map WData.int)]/\h.get? a=some { cls:=.type "list",data:=.seq vs.toArray }/\IntsAre vs ns/\ns.length<=n:=by
 have hsh:WShape.hasAll [] args [.list .int]=true:=(pre_splitW hpre).1;have hc:l.pre.holds [] { args:=args }=true:=(pre_splitW hpre).2;obtain ⟨d,r,rfl,h1,h2⟩:=hasAllW_cons hsh;obtain rfl:=hasAllW_nil h2;obtain ⟨xs,rfl,h3⟩:=hasW_list h1;obtain ⟨ns,rfl⟩:=items_int h3
 have hlen:ns.length<=n:=by
  unfold OpenLaw.pre at hc
  have h4:(WTm.not (.lt (.lit (.int (n:Int))) (.len (.arg 0)))).holds [] { args:=[.list (ns.map .int)] }=true:=by
   have h4:=(holds_andW hc).1;rw[hn] at h4;exact h4
  have h5:=condW_of h4 (w_not (w_lt w_lit (w_len_list (w_arg rfl))));rw[ag] at h5;refine Nat.le_of_not_lt λq=>?_
  have q':(n:Int) < ((ns.length:Nat):Int):=by lia
  first
   | (rw[decide_eq_true q'] at h5;exact absurd h5 (by decide))
   | (simp at h5;lia)
 cases hwl with
 | cons w1 w2 =>
  cases w2;cases w1 with
  | list ho hall=>exact ⟨_,_,ns,rfl,rfl,ho,xk ns _ hall,hlen⟩
theorem Gh (l:OpenLaw) (args:List WData):l.row.toRowW.claim.post args (.bool true) args=true :=
 postW_of (r:=l.row.toRowW) (X:=(true == true))
  (show WShape.has [] (.bool true) .bool=true by first | rfl | decide | simp [WShape.has,WShape.arms,WShape.armsAll])
  (show (WTm.eq .res (.lit (.bool true))).value [] { args:=args,res:=some (.bool true),after:=args }=some (.bool (true == true)) from w_eq_bool (w_res rfl) w_lit) rfl
theorem DG {l:OpenLaw} 
  (hn:l.most=some n) (hdf:d.params.defaults=[])
  (call:∀(w:World) (s₀ s₁:Shared) (mg mb:Str->Option Value) (fa:Addr) (o:Obj) (pm cd doc:Value) (a:Addr) (vs:List Value) (ns:List Int),
   Ground q loose [] XP w s₀ mg mb s₁.heap->YP w s₁.heap →
   s₁.heap.get? fa=some o->o.data=.func (docDef d.name d.params d.body d.scope pm cd doc)->s₁.heap.CodeRec cd d.name->mg d.name=some (.ref fa) →
   s₁.heap.get? a=some { cls:=.type "list",data:=.seq vs.toArray }->IntsAre vs ns->ns.length<=n->s₁.gens=#[] →
   codeAny (model l.prog w) callerA (.call (.ref fa) ⟨[.ref a],[]⟩) (λr s'=>r=.ok (.ret (.bool true))/\OldK s₁.heap s'.heap/\s'.os=s₁.os/\AllBare s'.gens) s₁) :
  WalkO q loose XP YP l.row.toRowW d [] (λf vs=>PySem.call f vs):=by
 intro w s₀ s₁ mg mb G Y fa o pm cd doc dV kV ho hd hcd hD hmg hg args vals as hpre hlay hrd hwl hlo;obtain rfl:dV=.none:=Dflts.none hD hdf;obtain rfl:kV=.none:=Dflts.noKw hD;obtain ⟨a,vs,ns,rfl,rfl,hobj,hints,hlen⟩:=F6 hn hpre hwl;refine enter_call (codeAny_mono (call w s₀ s₁ mg mb fa o pm cd doc a vs ns G Y ho (fd_plain hd) hcd hmg hobj hints hlen hg) λr s' hq=>?_);obtain ⟨rfl,h2,h3,h4⟩:=hq;exact ⟨.inl ⟨.bool true,.bool true,[],rfl,λ_=>rfl,.bool true,Gh l _,λ_=>⟨List.Pairwise.nil,λ_ hm=>(nomatch hm)⟩⟩,h2,h3,h4⟩
section
variable {prog:Program} {w:World} {A:Around} {E:Value->Shared->Prop} {s:Shared} {K:Frag}
end
end Att
namespace L2
open PySem PySem.Spec PyProof.Rows
theorem zV:∀{vs:List Value} {ns:List Int},IntsAre vs ns->cC (ns.map V.int) vs
 | _,_,.nil=>.nil
 | _,_,.cons n t h=>.cons ⟨t,rfl⟩ (zV h)
def Nj (H:Hp):Prop:=∀b,H b=none\/∃o xs,H b=some (.frz o (.lst xs))
theorem IG {K:FG9} 
  (KX:K.In s₁.heap) (hns:s₁.heap.Ns mainGlobals mg) (hb:s₁.heap.Ns builtinsNs mb) (hbb:∀x:Str,x≠"__name__"->mb x=bootBuiltins x) (hlim:s₁.heap.NoLimit) (hg:s₁.gens=#[])
  (ha:s₁.heap.get? a=some { cls:=.type "list",data:=.seq vs.toArray }) (hi:IntsAre vs ns) (hl:ns.length<=sizeLine) (hr:jS k callerA)
  (F:∀base:Heap,K.In base->base.Ns mainGlobals mg->cE P w K mg base CX k fa fd [x] sp) (hbind:∀(s:Shared) (u:Value),BindsTo s fd ⟨[u],[]⟩ [(x,u)])
  (hsp:∀H:Hp,Nj H->bO K H a (ns.map V.int)->sp [.ref a] H (λv _=>v=.bl true) λ_ _ _=>False)
  (hCX:∀H e s',CX [] H s₁ (λ_ _ _=>False) e s'->False) :
  codeAny (model P w) callerA (.call (.ref fa) ⟨[.ref a],[]⟩) (λr s'=>r=.ok (.ret (.bool true))/\OldK s₁.heap s'.heap/\s'.os=s₁.os/\AllBare s'.gens) s₁:=by
 have rv:=zV hi;have lenV:=hi.length
 have core:∀H:Hp,Nj H->bO K H a (ns.map V.int)->xE P w H s₁.heap->(∀b,H b≠none->b=a)->(H a≠none->K.lookup a=none) →
   codeAny (model P w) callerA (.call (.ref fa) ⟨[.ref a],[]⟩) (λr s'=>r=.ok (.ret (.bool true))/\OldK s₁.heap s'.heap/\s'.os=s₁.os/\AllBare s'.gens) s₁:=by
  intro H hO hS hok hA hK;have base_of:∀{b:Addr} {o:Obj},s₁.heap.get? b=some o->H b=none->(BZ s₁.heap H).get? b=some o:=λe n=>IU e n
  have noA:∀{b:Addr} {o:Obj} {es:Array DictEntry} {ep:Nat},s₁.heap.get? b=some o->o.data=.dict es ep->H b=none:=λ{b o es ep} e d=>by
   cases q:H b with
   | none=>rfl
   | some u =>
    have e':b=a:=hA b (by rw[q];simp);subst e';rw[ha] at e;cases e;have d':Data.seq vs.toArray _=Data.dict es ep:=d;cases d'
  have nsK:∀{b:Addr} {m:Str->Option Value},s₁.heap.Ns b m->(BZ s₁.heap H).Ns b m:=λ{b m} ⟨o,es,ep,e,d,r⟩=>⟨o,es,ep,base_of e (noA e d),d,r⟩
  have hKb:K.In (BZ s₁.heap H):=λb o e=>base_of (KX b o e) (by
   cases q:H b with
   | none=>rfl
   | some u =>
    have e':b=a:=hA b (by rw[q];simp);subst e';rw[hK (by rw[q];simp)] at e;cases e)
  have hM:Mod K mg (BZ s₁.heap H):=⟨hKb,nsK hns,⟨mb,nsK hb,hbb⟩,let ⟨mc,h1,h2⟩:=hlim;⟨mc,nsK h1,h2⟩⟩;have e0:EG P w K mg (BZ s₁.heap H) callerA [] s₁ H:=⟨rfl,hM,λb o e=>KD e,Nat.le_of_eq (GC _ _),trivial,λb hb=>absurd (show b∈([]:List Addr) from hb) (by simp),hok,.of_eq hg⟩;refine codeAny_mono ((F _ hKb (nsK hns)).run callerA [] s₁ H ⟨[.ref a],[]⟩ [.ref a] [.ref a] _ _ hr e0 (hbind s₁ (.ref a)) (.cons rfl .nil) (hsp H hO hS)) λr s' h=>?_
  cases r with
  | error e=>exact (hCX H e s' h).elim
  | ok fl =>
   cases fl with
   | next=>exact False.elim h
   | brk=>exact False.elim h
   | cont=>exact False.elim h
   | ret u =>
    obtain ⟨v,H',os,bare,un,hok',r',q⟩:=h;have q':v=.bl true:=q;subst q';obtain rfl:u=Value.bool true:=r';refine ⟨rfl,OldK.of_keep λb o e=>?_,os,bare⟩;cases q:H b with
    | none=>exact un.keep b o e q (by intro z;exact absurd (show b∈([]:List Addr) from z) (by simp)) (by simp)
    | some u =>
     rcases hO b with z | ⟨ob,xs,z⟩
     ·rw[q] at z;cases z
     ·have z2:=un.frzs b ob _ z;obtain ⟨e1,_⟩:=hok b _ z;obtain ⟨e2,_⟩:=hok' b _ z2;rw[e] at e1;cases e1;exact e2
 cases hk:K.lookup a with
 | some o =>
  have e:=KX a o hk;rw[ha] at e;cases e;refine core (λ_=>none) (λ_=>.inl rfl) (.inr ⟨_,vs.toArray,_,hk,rfl,rfl,rfl,by rw[aL,lenV];exact hl,by simpa using rv⟩) (λb u z=>by have z':(none:Option HO)=some u:=z;cases z') (λb z=>absurd rfl z) λz=>absurd rfl z
 | none =>
  refine core (λb=>if b=a then some (.frz { cls:=.type "list",data:=.seq vs.toArray } (.lst (ns.map V.int))) else none) (λb=>?_) (.inl (.inr ⟨{ cls:=.type "list",data:=.seq vs.toArray },if_pos rfl⟩)) (λb u z=>?_) (λb z=>?_) λ_=>hk
  ·by_cases hb:b=a
   ·exact .inr ⟨_,_,if_pos hb⟩
   ·exact .inl (if_neg hb)
  ·by_cases hb:b=a
   ·have z':=(if_pos hb).symm.trans z;cases z';subst hb;exact ⟨ha,by rw[ag];exact hl,vs,_,rv,ha⟩
   ·have z':=(if_neg hb).symm.trans z;cases z'
  ·by_cases hb:b=a
   ·exact hb
   ·exact absurd (if_neg hb) z
theorem JJ {l:PySem.W.OpenLaw} {K:Params->FG9} {CX:World->Ju} {sp:World->Sp} 
  (hn:l.most=some n) (hn2:n<=sizeLine) (hdf:d.params.defaults=[]) (hr:jS k callerA)
  (hY:∀(w:World) (h:Heap),YP w h->(K w.params).In h)
  (F:∀(w:World) (mg:Str->Option Value) (fa:Addr) (h:Heap),(K w.params).In h->h.Ns mainGlobals mg->mg d.name=some (.ref fa) →
   ∃fd:FuncData,(∀(s:Shared) (u:Value),BindsTo s fd ⟨[u],[]⟩ [(x,u)]) /\
    ∀base:Heap,(K w.params).In base->base.Ns mainGlobals mg->cE l.prog w (K w.params) mg base (CX w) k fa fd [x] (sp w))
  (hsp:∀(w:World) (H:Hp) (a:Addr) (ns:List Int),ns.length<=n->Nj H->bO (K w.params) H a (ns.map V.int)->sp w [.ref a] H (λv _=>v=.bl true) λ_ _ _=>False)
  (hCX:∀(w:World) (H:Hp) (s:Shared) (e:Value) (s':Shared),CX w [] H s (λ_ _ _=>False) e s'->False) :
  PySem.W.WalkO q loose XP YP l.row.toRowW d [] (λf vs=>PySem.call f vs):=by
 refine Att.DG hn hdf λw s₀ s₁ mg mb fa o pm cd doc a vs ns G Y ho hd hcd hmg hobj hints hlen hg=>?_
 have KX:=hY w _ Y;obtain ⟨fd,hb,hF⟩:=F w mg fa _ KX G.T.g hmg;exact IG KX G.T.g G.T.b G.T.builtins G.T.nolimit hg hobj hints (ai hlen hn2) hr hF hb (λH hO hS=>hsp w H a ns hlen hO hS) λH e s'=>hCX w H s₁ e s'
end L2

namespace L2
open PySem PySem.Spec PyProof.Rows
def inClass (s:Stmt) (j:Nat):Stmt:=match s with
 | .ClassDef _ _ _ body _ _ _ _ _ _ _=>body.getD j (.Pass ⟨0,0,0,0⟩)
 | _=>.Pass ⟨0,0,0,0⟩
def j5 (s:Stmt):Arguments:=match s with
 | .FunctionDef _ a _ _ _ _ _ _ _ _=>a
 | _=>{ posonlyargs:=[],args:=[],vararg:=none,kwonlyargs:=[],kw_defaults:=[],kwarg:=none,defaults:=[] }
def iF (s:Stmt):List Stmt:=match s with
 | .FunctionDef _ _ b _ _ _ _ _ _ _=>b
 | _=>[]
def aK (s:Stmt):Scope:=match s with
 | .FunctionDef _ _ _ _ _ _ sc _ _ _=>sc
 | _=>{ kind:=.function,names:=[],isGenerator:=false,isCoroutine:=false }
abbrev fw:Ju:=λ_ _ _ _ _ _=>False
abbrev E0:XK:=λ_ _ _=>False
theorem Dc:vJ fw X E0:=λ_ _ _ _ _ _ _ h=>h.elim
structure JB (K:FG9) (x qual:Str) (st:Stmt) (f:Addr) (fd:FuncData):Prop where
 ex:∃(oc:Value) (od:Option Addr) (kV doc pm:Value) (an:Option Addr) (cdv ct:Value) (osl:Array (Option Value)),
  fd=PySem.W.fnOf x qual (j5 st) (iF st) (aK st) .none kV doc pm an cdv ct/\K.lookup f=some ⟨oc,od,.func fd,osl⟩/\PySem.W.codeIn K cdv qual=true
 kp:PySem.W.keepIn K (.ref f)=true
section
variable {P:Program} {w:World} {K:FG9} {mg:Str->Option Value} {base:Heap}
theorem JB.ok {st:Stmt} (F:JB K x qual st f fd) (S:aX N ps (aK st)) (len:∀vs H Q E,sp vs H Q E->vs.length=ps.length)
  (hbody:∀(cdv:Value) (A:Around) (outer:List Env) (s:Shared) (H:Hp) (vs:List V) (Q:VK) (E:XK),jS k (A.deeper (envOfC qual (aK st) s.heap.objs.size f cdv))->sp vs H Q E →
   ∃t,EE (GK fw P w K mg base N qual (aK st) f cdv A outer s H E).nox (iF st) t/\t { nx:=λ_ H'=>Q .non H',rt:=Q } (start N vs) H):cE P w K mg base fw (k+1) f fd ps sp:=by
 obtain ⟨oc,od,kV,doc,pm,an,cdv,ct,osl,rfl,lk,hcd⟩:=F.ex;refine OH lk hcd S len λA outer s H vs Q E hr hsp=>?_
 obtain ⟨t,h,q⟩:=hbody cdv A outer s H vs Q E hr hsp;exact ⟨t,h.nox,q⟩
theorem JB.binds {st:Stmt} (F:JB K x qual st f fd)
  (h:∀(kV doc pm:Value) (an:Option Addr) (cdv ct:Value) (us:List Value),us.length=ps.length->bindArgs (PySem.W.fnOf x qual (j5 st) (iF st) (aK st) .none kV doc pm an cdv ct) ⟨us,[]⟩=pure (ps.zip us)):Binds K fd ps []:=by
 obtain ⟨oc,od,kV,doc,pm,an,cdv,ct,osl,rfl,lk,hcd⟩:=F.ex;exact .all (h kV doc pm an cdv ct)
theorem Eu {st:Stmt} {kV doc pm cdv ct:Value} (l:K.lookup f=some ⟨oc,od,.func (PySem.W.fnOf x qual (j5 st) (iF st) (aK st) .none kV doc pm an cdv ct),osl⟩)
  (c:PySem.W.codeIn K cdv qual=true) (k:PySem.W.keepIn K (.ref f)=true):JB K x qual st f (PySem.W.fnOf x qual (j5 st) (iF st) (aK st) .none kV doc pm an cdv ct):=⟨⟨oc,od,kV,doc,pm,an,cdv,ct,osl,rfl,l,c⟩,k⟩
end
structure Df (K:FG9) (mg:Str->Option Value) (x:Str) (st:Stmt) (ps:List Str) (f:Addr) (fd:FuncData):Prop where
 m:mg x=some (.ref f)
 b:Binds K fd ps []
 F:JB K x x st f fd
structure Dh (K:FG9) (x:Str) (st:Stmt) (f:Addr) (fd:FuncData):Prop where
 a:PySem.W.nsIn K mainGlobals x=some (some (.ref f))
 F:JB K x x st f fd
theorem OI {K:FG9} {st:Stmt} {kV doc pm cdv ct:Value} (a:PySem.W.nsIn K mainGlobals x=some (some (.ref f))) (l:K.lookup f=some ⟨oc,od,.func (PySem.W.fnOf x x (j5 st) (iF st) (aK st) .none kV doc pm an cdv ct),osl⟩) (c:PySem.W.codeIn K cdv x=true) (k:PySem.W.keepIn K (.ref f)=true):Dh K x st f (PySem.W.fnOf x x (j5 st) (iF st) (aK st) .none kV doc pm an cdv ct):=⟨a,Eu l c k⟩
theorem Dh.D {K:FG9} {x:Str} {st:Stmt} {f:Addr} {fd:FuncData} {ps:List Str} {mg:Str->Option Value} {h:Heap} (d:Dh K x st f fd) (X:K.In h) (G:h.Ns mainGlobals mg) (hb:∀(kV doc pm:Value) (an:Option Addr) (cdv ct:Value) (us:List Value),us.length=ps.length->bindArgs (PySem.W.fnOf x x (j5 st) (iF st) (aK st) .none kV doc pm an cdv ct) ⟨us,[]⟩=pure (ps.zip us):=by walk_at "b"):Df K mg x st ps f fd:=⟨PySem.W.mg_of X G d.a,d.F.binds hb,d.F⟩
theorem cL {X:Cx} {k k':Nat} {f:Addr} {fd:FuncData} {ps:List Str} {sp:Sp} {x:Str} {st:Stmt} {p pos:Pos} {e:Expr} {es:List Expr} {t:TA} (F:cE X.prog X.w X.K X.mg X.base fw k f fd ps sp) (hr:jS k' X.A) (D:Df X.K X.mg x st ps f fd) (ha:PA X (e :: es) t) (hle:k<=k':=by decide) (hg:Gl X x:=by exact rfl) (hdb:(x == ("__debug__":Str))=false:=by decide) (he:starEach (e :: es) X.env=(false,eval e X.env) :: starEach es X.env:=by rfl) (hpl:(backTo pos (starEach es X.env)).any (·.1)=false:=by rfl):PE X (.Call (.Name x p) (e :: es) [] pos) (HE sp [] E0 t):=Ky F (hr.mono hle) hg D.m D.F.kp D.b .nil Dc ha hdb he hpl
theorem bc (h:n<=1000):n < sizeLine:=bg h (by decide)
section
variable {X:Cx}
theorem pv (i:Nat) {x:Str} {pos:Pos} (hN:X.N[i]?=some x:=by rfl) (hv:Pl X.env.scope x:=by first | exact Or.inl rfl | exact Or.inr (Or.inl rfl) | exact Or.inr (Or.inr rfl)) (hd:(x == ("__debug__":Str))=false:=by decide)
  (hcd:(x == ("__classdict__":Str))=false:=by decide):PE X (.Name x pos) (L9 i):=MI hN hv hd hcd
end
theorem IM {A B:Prop} (h:B):if false=true then A else B:=by
 rw[if_neg a9];exact h
theorem Oy {A B:Prop} (h:A):if true=true then A else B:=by
 rw[if_pos rfl];exact h
theorem gQ {c A B:Prop} [Decidable c] (h1:c->A) (h2:¬c->B):if c then A else B:=by
 by_cases h:c
 ·rw[if_pos h];exact h1 h
 ·rw[if_neg h];exact h2 h
def aF (H H':Hp):Prop:=∀b o,H b=some o->H' b=some o
theorem aF.refl (H:Hp):aF H H:=λ_ _ h=>h
theorem aF.trans (a:aF H H1) (b:aF H1 H2):aF H H2:=λc o h=>b c o (a c o h)
theorem aF.free (e:aF H H') (h:H' l=Option.none):H l=Option.none:=by
 cases q:H l with
 | none=>rfl
 | some o =>
  rw[e l o q] at h;cases h
theorem aF.seq {K:FG9} (e:aF H H') (h:bO K H a xs):bO K H' a xs:=by
 rcases h with (h | ⟨o,h⟩) | h
 ·exact .inl (.inl (e _ _ h))
 ·exact .inl (.inr ⟨o,e _ _ h⟩)
 ·exact .inr h
end L2
namespace Nm
theorem Ja (a b:Int):Int.gcd b (a.fmod b)=Int.gcd a b:=by
 rw[Int.fmod_def,jz a b];apply Nat.dvd_antisymm
 ·apply Jx
  ·exact d9 ..
  ·have h1:=d9 (a:=b) (b:=a - b*a.fdiv b);have h2:=eN (a:=b) (b:=a - b*a.fdiv b);have h3:=Int.dvd_add h2 (kH (c:=a.fdiv b) h1);rwa [Int.sub_add_cancel] at h3
 ·apply Jx
  ·exact d9 ..
  ·exact Int.dvd_sub (eN ..) (kH (d9 ..))
theorem Jb (a b:Int):Int.gcd b (a % b)=Int.gcd a b:=by
 rw[Int.emod_def,jz a b];apply Nat.dvd_antisymm
 ·apply Jx
  ·exact d9 ..
  ·have h1:=d9 (a:=b) (b:=a - b*(a / b));have h2:=eN (a:=b) (b:=a - b*(a / b));have h3:=Int.dvd_add h2 (kH (c:=a / b) h1);rwa [Int.sub_add_cancel] at h3
 ·apply Jx
  ·exact d9 ..
  ·exact Int.dvd_sub (eN ..) (kH (d9 ..))
theorem KN (a b:Int) (h:b≠0):(a.fmod b).natAbs < b.natAbs:=by
 rcases Int.lt_or_gt_of_ne h with h | h
 ·have e:a.fmod b=-((-a).fmod (-b)):=by
   have:=Int.neg_fmod_neg (-a) (-b);simp only[Int.neg_neg] at this;exact this
  have h1:=Int.fmod_nonneg_of_pos (-a) (b:=-b) (by lia);have h2:=Int.fmod_lt_of_pos (-a) (b:=-b) (by lia)
  lia
 ·have h1:=Int.fmod_nonneg_of_pos a h;have h2:=Int.fmod_lt_of_pos a h
  lia
def g (t b:Int):Int:=(Int.gcd t b:Int)
def lo (t b:Int):Int:=t / g t b
def hi (t b:Int):Int:=b / g t b
theorem yP (h:b≠0):0 < g t b:=by
 unfold g;have:0 < Int.gcd t b:=JG _ h
 lia
theorem yK (t b:Int):lo t b*g t b=t:=Int.ediv_mul_cancel (d9 ..)
theorem vE (t b:Int):hi t b*g t b=b:=Int.ediv_mul_cancel (eN ..)
theorem Ca (h:0 < b):0 < hi t b:=by
 have h1:=yP (t:=t) (b:=b) (by lia);have h2:=vE t b;by_cases h3:0 < hi t b
 ·exact h3
 ·have:hi t b*g t b<=0:=Int.mul_nonpos_of_nonpos_of_nonneg (by lia) (by lia)
  lia
theorem yI (h:b≠0):Int.gcd (lo t b) (hi t b)=1:=by
 have h1:=yP (t:=t) h;have e:=Int.gcd_mul_right (lo t b) (g t b) (hi t b);rw[yK,vE] at e;have e2:(g t b).natAbs=Int.gcd t b:=by unfold g;simp
 rw[e2] at e;have h2:0 < Int.gcd t b:=JG _ h;exact Nat.eq_of_mul_eq_mul_right h2 (by rw[<- e,AX])
theorem yJ (t b:Int):lo t b*b=t*hi t b:=by
 have h1:=yK t b;have h2:=vE t b
 calc lo t b*b=lo t b*(hi t b*g t b):=by rw[h2]
  _=(lo t b*g t b)*hi t b:=by rw[eU (hi t b),<- dn]
  _=t*hi t b:=by rw[h1]
theorem oq (h:Int.gcd a b=1) (hd:a∣b*c):a∣c:=by
 have h1:a.natAbs∣b.natAbs*c.natAbs:=by rw[<- eC];exact d4.mpr hd
 have h2:Nat.Coprime a.natAbs b.natAbs:=h;exact d4.mp (h2.dvd_of_dvd_mul_left h1)
theorem uniq (hb:0 < b) (hd:0 < d) (h1:Int.gcd a b=1) (h2:Int.gcd c d=1) (e:a*d=c*b):a=c/\b=d:=by
 have e1:b∣d:=by
  have:b∣a*d:=⟨c,by rw[e,eU]⟩;exact oq (by rw[jz];exact h1) this
 have e2:d∣b:=by
  have:d∣c*b:=⟨a,by rw[<- e,eU]⟩;exact oq (by rw[jz];exact h2) this
 have e3:b=d:=Int.dvd_antisymm (by lia) (by lia) e1 e2;subst e3;exact ⟨rE (by lia) e,rfl⟩
theorem MQ (hb:0 < b) (hd:0 < d) (h2:Int.gcd c d=1) (e:t*d=c*b):lo t b=c/\hi t b=d:=by
 refine uniq (Ca hb) hd (yI (by lia)) h2 ?_;have h:=yJ t b;have hb':b≠0:=by lia
 apply rE hb'
 calc lo t b*d*b=lo t b*b*d:=by rw[dn,eU d b,<- dn]
  _=t*hi t b*d:=by rw[h]
  _=t*d*hi t b:=by rw[dn,eU (hi t b),<- dn]
  _=c*b*hi t b:=by rw[e]
  _=c*hi t b*b:=by rw[dn,eU b,<- dn]
theorem MR (hb:0 < b) (h:Int.gcd a b=1):lo a b=a/\hi a b=b:=MQ hb hb h rfl
theorem l8 {a b:Int} (h:b≠0):a.natAbs<=(a*b).natAbs:=by
 rw[eC];exact dt _ (Int.natAbs_pos.mpr h)
theorem lo_le (h:b≠0):(lo t b).natAbs<=t.natAbs:=by
 have:=l8 (a:=lo t b) (b:=g t b) (by have:=yP (t:=t) h;lia);rwa [yK] at this
theorem LF (h:b≠0):(hi t b).natAbs<=b.natAbs:=by
 have:=l8 (a:=hi t b) (b:=g t b) (by have:=yP (t:=t) h;lia);rwa [vE] at this
def Sz (k:Nat) (x:Int):Prop:=x.natAbs < 2^k
theorem Sz.mono (h:Sz j x) (l:j<=k):Sz k x:=bE h (ao (by decide) l)
theorem Sz.mul (h1:Sz j x) (h2:Sz k y):Sz (j+k) (x*y):=by
 unfold Sz at *
 rw[eC,bC];exact Nat.mul_lt_mul'' h1 h2
theorem Sz.neg (h:Sz k x):Sz k (-x):=by unfold Sz at *;rw[iQ];exact h
theorem Sz.le (h:Sz k y) (l:x.natAbs<=y.natAbs):Sz k x:=bg l h
theorem Sz.hi {k:Nat} {t b:Int} (h:Sz k b) (hb:b≠0):Sz k (hi t b):=h.le (LF hb)
end Nm
namespace L2
open PySem PySem.Spec PyProof.Rows
structure Bk (env:Env) (scope:Scope) (own capN:List Str):Prop where
 kind:scope.kind=.function
 locs:∀y∈scope.names,y.2=.local->scope.names.lookup y.1=some .local
 ownk:∀x∈own,scope.names.lookup x=some .local\/scope.names.lookup x=some .cell
 cells:∀y∈scope.names,y.2=.cell->y.1∈own/\y.1∉capN
 frees:∀y∈scope.names,y.2=.free->y.1∈capN/\y.1∉own
 capf:∀x∈capN,scope.names.lookup x=some .free
 caps:∀x∈capN,env.kindOf x=some .cell\/env.kindOf x=some .free
def O0 (scope:Scope) (own capN:List Str):Bool :=
 decide (scope.kind=.function) && scope.names.all (λy=>decide (y.2=.local->scope.names.lookup y.1=some .local) && decide (y.2=.cell->y.1∈own/\y.1∉capN) && decide (y.2=.free->y.1∈capN/\y.1∉own)) &&
 own.all (λx=>decide (scope.names.lookup x=some .local\/scope.names.lookup x=some .cell)) && capN.all λx=>decide (scope.names.lookup x=some .free)
def AG (env:Env):List Str->Bool
 | []=>true
 | x :: r=>(match env.kindOf x with | some .cell=>true | some .free=>true | _=>false) && AG env r
theorem DD {env:Env}:∀{capN:List Str},AG env capN=true->∀x∈capN,env.kindOf x=some .cell\/env.kindOf x=some .free
 | [],_,_,h=>nomatch h
 | y :: r,h,x,hx=>by
  unfold AG at h;rw[du] at h;rcases aE.mp hx with e | hx
  ·subst e;have h1:=h.1
   split at h1
   ·rename_i e;exact .inl e
   ·rename_i e;exact .inr e
   ·cases h1
  ·exact DD h.2 x hx
theorem Bk.of (h1:O0 scope own capN=true) (h2:AG env capN=true):Bk env scope own capN:=by
 unfold O0 at h1;rw[du,du,du,mY,mY,mY] at h1;obtain ⟨⟨⟨a1,a2⟩,a3⟩,a4⟩:=h1
 have a2':∀y∈scope.names,(y.2=.local->scope.names.lookup y.1=some .local)/\(y.2=.cell->y.1∈own/\y.1∉capN)/\(y.2=.free->y.1∈capN/\y.1∉own):=λy hy=>by
  have q:=a2 y hy;rw[du,du] at q;exact ⟨of_decide_eq_true q.1.1,of_decide_eq_true q.1.2,of_decide_eq_true q.2⟩
 exact ⟨of_decide_eq_true a1,λy hy=>(a2' y hy).1,λx hx=>of_decide_eq_true (a3 x hx),λy hy=>(a2' y hy).2.1,λy hy=>(a2' y hy).2.2,λx hx=>of_decide_eq_true (a4 x hx),DD h2⟩
def dE (env:Env):List (Str×NameKind)->List (Str×Addr)->List (Str×Addr)
 | [],acc=>acc
 | (n,k) :: r,acc=>if k == .free then dE env r ((n,(env.cells.lookup n).getD 0) :: acc) else dE env r acc
theorem fX (env:Env):∀(names:List (Str×NameKind)) (acc:List (Str×Addr)),dE env names acc=dE env names []++acc
 | [],_=>rfl
 | (n,k) :: r,acc=>by
  unfold dE
  split
  ·rw[fX env r (_ :: acc),fX env r [_],b8];rfl
  ·exact fX env r acc
theorem ou (env:Env):∀(names:List (Str×NameKind)) {x:Str} {c:Addr},(x,c)∈dE env names []->(x,NameKind.free)∈names/\c=(env.cells.lookup x).getD 0
 | [],_,_,h=>nomatch h
 | (n,k) :: r,x,c,h=>by
  unfold dE at h
  split at h
  ·rename_i hk
   have ek:k=.free:=by simpa using hk
   subst ek;rw[fX] at h;rcases au.mp h with h | h
   ·have q:=ou env r h;exact ⟨bN _ q.1,q.2⟩
   ·have e:(x,c)=(n,(env.cells.lookup n).getD 0):=by simpa using h
    cases e;exact ⟨cp,rfl⟩
  ·have q:=ou env r h;exact ⟨bN _ q.1,q.2⟩
theorem gP {α:Type}:∀{l:List (Str×α)} {x:Str} {c:α},(x,c)∈l->∃d,l.lookup x=some d
 | (k,v) :: r,x,c,h=>by
  rw[jx];cases hb:x == k with
  | true=>exact ⟨v,rfl⟩
  | false =>
   rcases aE.mp h with e | h
   ·cases e;simp at hb
   ·exact gP h
theorem ow (env:Env):∀(names:List (Str×NameKind)) {x:Str},(x,NameKind.free)∈names->∃c,(x,c)∈dE env names []
 | (n,k) :: r,x,h=>by
  unfold dE;rcases aE.mp h with e | h
  ·cases e;rw[if_pos (by decide),fX];exact ⟨_,bV _ cp⟩
  ·obtain ⟨c,q⟩:=ow env r h
   split
   ·rw[fX];exact ⟨c,oK _ q⟩
   ·exact ⟨c,q⟩
theorem y7 (h:∀y∈scope.names,y.2=.free->∃c,env.cells.lookup y.1=some c):closureFor scope env=pure (dE env scope.names []):=by
 have gen:∀(names:List (Str×NameKind)) (acc:List (Str×Addr)) (f:Str×NameKind->List (Str×Addr)->Sem (ForInStep (List (Str×Addr)))),
   (∀name kind cells,f (name,kind) cells=if kind == .free then (do let a <- cellOf env name;pure (.yield ((name,a) :: cells))) else pure (.yield cells)) →
   (∀y∈names,y.2=.free->∃c,env.cells.lookup y.1=some c)->forIn names acc f=pure (dE env names acc):=by
  intro names
  induction names with
  | nil=>intro acc f hf _;rw[A0];rfl
  | cons y r ih =>
   intro acc f hf hh;obtain ⟨n,k⟩:=y;rw[JF,hf];unfold dE;by_cases hk:(k == NameKind.free)=true
   ·obtain ⟨c,hc⟩:=hh (n,k) cp (by simpa using hk);have hc':env.cells.lookup n=some c:=hc;have e:cellOf env n=pure c:=by unfold cellOf;rw[hc']
    rw[if_pos hk,if_pos hk,e,hc'];simp only[pure_bind,Option.getD_some];exact ih _ f hf λy hy=>hh y (bN _ hy)
   ·rw[if_neg hk,if_neg hk];simp only[pure_bind];exact ih _ f hf λy hy=>hh y (bN _ hy)
 simp only[closureFor];rw[gen scope.names [] _ (λname kind cells=>by cases hkc:kind == NameKind.free <;> simp [hkc]) h];rfl
theorem eQ:∀(names:List (Str×NameKind)) (n:Nat) (acc:List (Str×Addr)),cellsFrom n names acc=cellsFrom n names []++acc
 | [],_,_=>rfl
 | (x,k) :: r,n,acc=>by
  unfold cellsFrom
  split
  ·rw[eQ r (n+1) (_ :: acc),eQ r (n+1) [_],b8];rfl
  ·exact eQ r n acc
theorem jt:∀(names:List (Str×NameKind)) (n:Nat) {x:Str} {c:Addr},(x,c)∈cellsFrom n names []->(x,NameKind.cell)∈names
 | [],_,_,_,h=>nomatch h
 | (y,k) :: r,n,x,c,h=>by
  unfold cellsFrom at h
  split at h
  ·rename_i hk
   have ek:k=.cell:=by simpa using hk
   subst ek;rw[eQ] at h;rcases au.mp h with h | h
   ·exact bN _ (jt r _ h)
   ·have e:(x,c)=(y,n):=by simpa using h
    cases e;exact cp
  ·exact bN _ (jt r _ h)
def vG (env:Env) (scope:Scope) (C:Addr):Env :=
 { scope:=relabel scope env,locals:=C,globals:=env.globals,cells:=cellsFrom (C+1) scope.names (dE env scope.names []),qual:=env.qual,func:=none,code:=env.code,frame:=env.frame,builtins:=env.builtins }
theorem Dk 
  (h:Q (newEnv scope s.heap.objs.size g (cellsFrom (s.heap.objs.size+1) scope.names cl) qual none .none (some env) builtinsNs) { s with heap:=pushCells (s.heap.push { cls:=.type "dict",data:=.dict #[] }) scope.names }) :
  wpAny M A (newFunctionEnv scope g cl [] qual none .none (some env)) Q E s:=by
 simp only[newFunctionEnv,Option.isSome_some,if_true];refine wpAny_bind (wpAny_alloc ?_);refine wpAny_bind (wpAny_layCells _ (λname kind cells=>by cases hkc:kind == NameKind.cell <;> simp [hkc]) _ _ _ _ ?_);rw[show ({ s with heap:=s.heap.push { cls:=.type "dict",data:=.dict #[] } }:Shared).heap.objs.size=s.heap.objs.size+1 from Heap.size_push ..];rw[A0];exact wpAny_bind (wpAny_pure (wpAny_pure h))
theorem sZ:∀{k:NameKind},(relabel scope env).names.lookup x=some k->∃k0,scope.names.lookup x=some k0/\(k=k0\/(k0=.free/\k=.cell)):=by
 unfold relabel;show ∀{k:NameKind},(scope.names.map λ(n,k)=>if (k == NameKind.free && env.scope.kind == .function && env.kindOf n == some .cell) then (n,NameKind.cell) else (n,k)).lookup x=some k->_
 induction scope.names with
 | nil=>intro k h;cases h
 | cons y r ih =>
  intro k h;obtain ⟨n,k1⟩:=y;rw[fJ,jx] at h;rw[jx];by_cases hc:(k1 == NameKind.free && env.scope.kind == .function && env.kindOf n == some .cell)=true
  ·simp only[hc,if_true] at h;cases hb:x == n with
   | true =>
    simp only[hb] at h
    have e1:k1=.free:=by
     rw[du,du] at hc;simpa using hc.1.1
    cases h;exact ⟨k1,rfl,.inr ⟨e1,rfl⟩⟩
   | false=>simp only[hb] at h;exact ih h
  ·have hc':(k1 == NameKind.free && env.scope.kind == .function && env.kindOf n == some .cell)=false:=by simpa using hc
   simp only[hc',gJ,if_false] at h;cases hb:x == n with
   | true=>simp only[hb] at h;cases h;exact ⟨_,rfl,.inl rfl⟩
   | false=>simp only[hb] at h;exact ih h
theorem C6:scope.names.lookup x=some .free->(relabel scope env).names.lookup x=some .cell\/(relabel scope env).names.lookup x=some .free:=by
 unfold relabel;show _->(scope.names.map λ(n,k)=>if (k == NameKind.free && env.scope.kind == .function && env.kindOf n == some .cell) then (n,NameKind.cell) else (n,k)).lookup x=some .cell\/(scope.names.map λ(n,k)=>if (k == NameKind.free && env.scope.kind == .function && env.kindOf n == some .cell) then (n,NameKind.cell) else (n,k)).lookup x=some .free
 induction scope.names with
 | nil=>intro h;cases h
 | cons y r ih =>
  intro h;obtain ⟨n,k1⟩:=y;rw[jx] at h;rw[fJ];by_cases hc:(k1 == NameKind.free && env.scope.kind == .function && env.kindOf n == some .cell)=true
  ·simp only[hc,if_true,jx];cases hb:x == n with
   | true=>exact .inl rfl
   | false=>rw[hb] at h;exact ih h
  ·have hc':(k1 == NameKind.free && env.scope.kind == .function && env.kindOf n == some .cell)=false:=by simpa using hc
   simp only[hc',gJ,if_false,jx];cases hb:x == n with
   | true=>rw[hb] at h;cases h;exact .inr rfl
   | false=>rw[hb] at h;exact ih h
structure Bz where
 s:Shared
 H:Hp
 fp:List Addr
 C:Addr
def xm (X:Cx) (own capN:List Str) (scope:Scope) (Z:Bz):Cx where
 prog:=X.prog
 w:=X.w
 K:=X.K
 mg:=X.mg
 base:=X.base
 A:=X.A
 N:=own++capN
 s₀:=Z.s
 H₀:=Z.H
 env:=vG X.env scope Z.C
 outer:=X.stack
 stack:=X.stack
 ex:=Z.fp
 fn:=λx=>own.contains x
 calm:=true
 pn:=[]
 xe:=λ_ _=>False
section
variable {X:Cx} {pins:List (Addr×Obj)} {σ:St} {own capN:List Str} {scope:Scope} {Z:Bz}
theorem gX (B:Bk X.env scope own capN) (I:Inv X pins σ Z.H Z.s) (h:(vG X.env scope Z.C).cells.lookup x=some c) :
  (x∈own/\(x,c)∈cellsFrom (Z.C+1) scope.names [])\/(x∈capN/\x∉own/\X.env.cells.lookup x=some c):=by
 have h':(cellsFrom (Z.C+1) scope.names (dE X.env scope.names [])).lookup x=some c:=h;rw[eQ] at h';rcases au.mp (mem_of_lookup h') with m | m
 ·exact .inl ⟨(B.cells _ (jt _ _ m) rfl).1,m⟩
 ·obtain ⟨m1,e⟩:=ou _ _ m;obtain ⟨q1,q2⟩:=B.frees _ m1 rfl;obtain ⟨d,hd⟩:=I.ok.has x (B.caps x q1);rw[hd] at e;exact .inr ⟨q1,q2,by rw[hd,e];rfl⟩
theorem KY (B:Bk X.env scope own capN) (I:Inv X pins σ Z.H Z.s) (hx:x∈capN) (h:X.env.cells.lookup x=some c):(vG X.env scope Z.C).cells.lookup x=some c:=by
 have hm:(x,NameKind.free)∈scope.names:=mem_of_lookup (B.capf x hx);obtain ⟨c1,m1⟩:=ow X.env scope.names hm
 have hs:∃d,(vG X.env scope Z.C).cells.lookup x=some d:=by
  show ∃d,(cellsFrom (Z.C+1) scope.names (dE X.env scope.names [])).lookup x=some d
  rw[eQ];exact gP (bV _ m1)
 obtain ⟨d,hd⟩:=hs;rcases gX B I hd with ⟨q,m⟩ | ⟨_,_,q⟩
 ·exact absurd hx (B.cells _ (jt _ _ m) rfl).2
 ·rw[h] at q;cases q;exact hd
theorem Gn (h:Heap) (C:Addr) (hC:h.objs.size=C+1) (names:List (Str×NameKind)):CellsOk (pushCells h names) (C+1) (cellsFrom (C+1) names []):=by
 have q:=cellsFrom_ok names h (C+1) [] ⟨λ_ _ hm=>(nomatch hm),List.Pairwise.nil⟩ (by rw[hC];exact ak _);rwa [hC] at q
theorem Cm (I:Inv X pins σ Z.H Z.s) (h:X.env.cells.lookup x=some c):@LT.lt Nat instLTNat c Z.s.heap.objs.size:=by
 obtain ⟨v,q⟩:=I.cell x c h;exact q.lt
theorem Nd (I:Inv X pins σ Z.H Z.s) (hc:X.calm=true) (B:Bk X.env scope own capN) (hC:Z.s.heap.objs.size<=Z.C) (hcl:CellsOk h1 (Z.C+1) (cellsFrom (Z.C+1) scope.names []))
  (hf:∀b∈Z.fp,jg X pins Z.H b/\@LT.lt Nat instLTNat b Z.s.heap.objs.size):(xm X own capN scope Z).Ok:=by
 refine ⟨I.ok.mod,B.kind,I.ok.glob,I.ok.blt,hC,λx y c h1 h2=>?_,λx hx=>?_,λx c hx h=>?_,λ_=>I.ok.hd hc,I.ok.frames,.inl rfl,λb hb=>⟨?_,λx c h=>?_⟩,I.bs,ai I.ok.bsz I.sz,λb o e hb=>?_,λb hb hz=>?_,I.stack,I.stkFree⟩
 ·rcases gX B I h1 with ⟨q1,m1⟩ | ⟨q1,n1,m1⟩ <;> rcases gX B I h2 with ⟨q2,m2⟩ | ⟨q2,n2,m2⟩
  ·exact name_of_addr hcl.apart m1 m2
  ·have l1:=(hcl.empty _ _ m1).2;have l2:=Cm I m2
   lia
  ·have l1:=(hcl.empty _ _ m2).2;have l2:=Cm I m1
   lia
  ·exact I.ok.inj x y c m1 m2
 ·have hx':(relabel scope X.env).names.lookup x=some .cell\/(relabel scope X.env).names.lookup x=some .free:=hx
  have hk:scope.names.lookup x=some .cell\/scope.names.lookup x=some .free:=by
   rcases hx' with h | h
   ·obtain ⟨k0,e,q | ⟨q,_⟩⟩:=sZ h
    ·exact .inl (by rw[e,<- q])
    ·exact .inr (by rw[e,q])
   ·obtain ⟨k0,e,q | ⟨_,q⟩⟩:=sZ h
    ·exact .inr (by rw[e,<- q])
    ·cases q
  show ∃c,(cellsFrom (Z.C+1) scope.names (dE X.env scope.names [])).lookup x=some c
  rcases hk with h | h
  ·exact NA.mp (xF scope.names (Z.C+1) _ (.inl h))
  ·obtain ⟨c,m⟩:=ow X.env scope.names (mem_of_lookup h);rw[eQ];exact gP (bV _ m)
 ·have ho:x∈own:=by have hx':own.contains x=true:=hx;simpa using hx'
  rcases gX B I h with ⟨_,m⟩ | ⟨_,n,_⟩
  ·have:=(hcl.empty _ _ m).2;have hC':Z.s.heap.objs.size<=Z.C:=hC;show Z.s.heap.objs.size<=c
   lia
  ·exact absurd ho n
 ·intro e;have e':@Eq Nat b Z.C:=e;have:=(hf b hb).2
  lia
 ·have l:=(hf b hb).2;rcases gX B I h with ⟨_,m⟩ | ⟨_,_,m⟩
  ·intro e;have e':@Eq Nat c b:=e;have:=(hcl.empty _ _ m).2
   lia
  ·exact (hf b hb).1.2.2.2.2.1 x c m
 ·obtain ⟨_,_,_,f3,_⟩:=(hf b hb).1;rcases f3 with f3 | f3
  ·exact I.ok.noex b o e f3
  ·exact absurd (bE (Heap.lt_size e) (ai I.ok.bsz f3)) (dG _)
 ·obtain ⟨_,f1,f2,_⟩:=(hf b hb).1;rcases aE.mp (I.stkSub b hz) with e | e
  ·exact f1 e
  ·exact f2 e
def GS (k:Nat) (cap:List Nat) (σ:St):St:=List.replicate k none++cap.map λj=>(σ[j]?).join
def wZ (X:Cx) (capN:List Str) (cap:List Nat):Prop:=cap.map (λj=>X.N[j]?)=capN.map some
theorem wZ.get (h:wZ X capN cap) {i:Nat} (e:capN[i]?=some x):∃j,cap[i]?=some j/\X.N[j]?=some x:=by
 have q:=congrArg (λl=>l[i]?) h;simp only[aD,e,Option.map_some] at q;cases hc:cap[i]? with
 | none=>rw[hc] at q;cases q
 | some j=>rw[hc] at q;exact ⟨j,rfl,by simpa using q⟩
theorem DE (I:Inv X pins σ Z.H Z.s) (B:Bk X.env scope own capN) (hcap:wZ X capN cap)
  (kc:∀x c,X.env.cells.lookup x=some c->∀v,Z.s.heap.IsCell c v->h'.IsCell c v) {i:Nat} (e1:(own++capN)[i]?=some x) (e2:(GS own.length cap σ)[i]?=some (some v)) :
  ∃u,RelV v u/\Look (vG X.env scope Z.C) h' m x u:=by
 have hi:own.length<=i:=by
  by_cases hi:own.length<=i
  ·exact hi
  ·exfalso
   unfold GS at e2;rw[cD (by simpa using hi),OT] at e2
   split at e2 <;> cases e2
 rw[bT hi] at e1;unfold GS at e2;rw[bT (by simpa using hi),dj,aD] at e2;obtain ⟨j,hj,hN⟩:=hcap.get e1;rw[hj] at e2;have e3:(σ[j]?).join=some v:=by simpa using e2
 have e4:σ[j]?=some (some v):=by
  cases q:σ[j]? with
  | none=>rw[q] at e3;cases e3
  | some o=>rw[q] at e3;simp at e3;rw[e3]
 have hx:x∈capN:=ax e1;have hk:=B.caps x hx;obtain ⟨m0,_,hl⟩:=I.loc;obtain ⟨u,r,l⟩:=hl j x v hN e4 (.inr hk);refine ⟨u,r,.inr ⟨C6 (B.capf x hx),?_⟩⟩;rcases l with ⟨hk2,_⟩ | ⟨_,c,hc,z⟩
 ·rcases hk with hk | hk
  ·rw[hk] at hk2;cases hk2
  ·rw[hk] at hk2;cases hk2
 ·exact ⟨c,KY B I hx hc,kc x c hc _ z⟩
theorem OF (I:Inv X pins σ Z.H Z.s) (h:b∈GV X.stack):@LT.lt Nat instLTNat b Z.s.heap.objs.size:=by
 obtain ⟨_,o,ho,_⟩:=I.stack.mem h;exact Heap.lt_size ho
theorem KU {D:Addr} (I:Inv X pins σ Z.H Z.s) (hc:X.calm=true) (B:Bk X.env scope own capN) (hcap:wZ X capN cap) (hC:Z.s.heap.objs.size<=Z.C)
  (hcl:CellsOk h1 (Z.C+1) (cellsFrom (Z.C+1) scope.names [])) (hf:∀b∈Z.fp,jg X pins Z.H b/\@LT.lt Nat instLTNat b Z.s.heap.objs.size)
  (hk:∀b o,Z.s.heap.get? b=some o->h1.get? b=some o) (hn:h1.Ns Z.C λ_=>none) (hD:Z.s.heap.objs.size<=D) (hDC:D≠Z.C) (hoD:h1.get? D=some oD) (hdD:∀v,oD.data≠.cell v) :
  Inv (xm X own capN scope Z) [(D,oD)] (GS own.length cap σ) Z.H { Z.s with heap:=h1,toks:=t1 }:=by
 refine ⟨Nd I hc B hC hcl hf,rfl,I.bare,Un.kept hk,⟨_,hn,λi x v e1 e2 _=>DE I B hcap (λx c _ v z=>z.keeps hk) e1 e2⟩,λx c h=>?_,I.hok.fresh hC,λx c h=>?_,λp hp=>?_,I.hok.kept hk,?_⟩
 ·rcases gX B I h with ⟨_,m⟩ | ⟨_,_,m⟩
  ·exact ⟨none,(hcl.empty _ _ m).1⟩
  ·obtain ⟨v,q⟩:=I.cell x c m;exact ⟨v,q.keeps hk⟩
 ·rcases gX B I h with ⟨_,m⟩ | ⟨_,_,m⟩
  ·exact I.hok.fresh (by have:=(hcl.empty _ _ m).2;lia)
  ·exact I.freeC x c m
 ·have e:p=(D,oD):=by simpa [xm] using hp
  subst e;exact ⟨hoD,I.hok.fresh hD,hDC,λz=>dG _ (bE (OF I z) hD),hdD⟩
 ·show (GS own.length cap σ).length=(own++capN).length
  have:=congrArg List.length hcap;simp only[ag] at this;unfold GS;simp [this]
theorem Jt {σ':St} (I:Inv X pins σ Z.H Z.s) (B:Bk X.env scope own capN) (hcap:wZ X capN cap) (hf:∀b∈Z.fp,jg X pins Z.H b/\@LT.lt Nat instLTNat b Z.s.heap.objs.size)
  (J:Inv (xm X own capN scope Z) pins' σ' H' s'):Inv (xm X own capN scope Z) pins' (GS own.length cap σ) H' s':=by
 refine ⟨J.ok,J.os,J.bare,J.base,?_,J.cell,J.free,J.freeC,J.pin,J.hok,?_⟩
 ·obtain ⟨m,hn,_⟩:=J.loc;refine ⟨m,hn,λi x v e1 e2 _=>DE I B hcap (λx c hx v z=>?_) e1 e2⟩;obtain ⟨o,ho,hd⟩:=z;obtain ⟨sl,e⟩:=J.base.any ho (I.freeC x c hx) λz=>(hf c z).1.2.2.2.2.1 x c hx rfl
  exact ⟨_,e,hd⟩
 ·show (GS own.length cap σ).length=(own++capN).length
  have:=congrArg List.length hcap;simp only[ag] at this;unfold GS;simp [this]
theorem KW {σ':St} {D:Addr} (I:Inv X pins σ Z.H Z.s) (hf:∀b∈Z.fp,jg X pins Z.H b/\@LT.lt Nat instLTNat b Z.s.heap.objs.size) (hD:Z.s.heap.objs.size<=D)
  (J:Inv (xm X own capN scope Z) [(D,{ cls:=.type "list",data:=.seq its.toArray n })] σ' H' s') (r:cC ys its) (hz:ys.length<=sizeLine) :
  Inv X pins σ (upd H' D (.lst ys)) s':=by
 have pD:=J.pin (D,{ cls:=.type "list",data:=.seq its.toArray n }) (by simp);have ne:∀{b:Addr} {o:Obj},Z.s.heap.get? b=some o->b≠D:=λe z=>by subst z;exact dG _ (bE (Heap.lt_size e) hD)
 have nt:∀{b:Addr} {u:HO},H' b=some u->b≠D:=λe z=>by rw[z,pD.2.1] at e;cases e
 refine I.call' (ch:=Z.fp) J.os ⟨J.base.keep,J.base.slot,λb o e h hx=>?_,J.base.there,λb xs e=>?_,λb o u e=>?_,λb ps e=>?_⟩ (λb u e=>?_) J.bare λb hb=>?_
 ·rw[br (ne e)];exact J.base.free b o e h hx
 ·have q:=J.base.tups b xs e;rw[br (nt q)];exact q
 ·have q:=J.base.frzs b o u e;rw[br (nt q)];exact q
 ·obtain ⟨more,q⟩:=J.base.tbls b ps e;exact ⟨more,by rw[br (nt q)];exact q⟩
 ·by_cases hb:b=D
  ·subst hb;rw[aH] at e;cases e;exact ⟨hz,its,n,r,pD.1⟩
  ·rw[br hb] at e;exact (J.hok b u e).stay (λc v _ q=>q) (λc q=>by rw[br (nt q)];exact q) λc xs q=>by rw[br (nt q)];exact q
 ·obtain ⟨_,f1,_,f3,f4,f5⟩:=(hf b hb).1;exact ⟨f3,f1,f4,f5⟩
end
theorem L8 {t:Sem α} {Q Q':α->Shared->Prop} (h:wpAny M A t Q (λ_ _=>False) s) (hQ:∀a s,Q a s->Q' a s):wpAny M A t Q' E s :=
 wpAny_mono h hQ λ_ _ z=>False.elim z
theorem Ck (I:Nat->Shared->Prop)
  (turn:∀(E:Value->Shared->Prop) n s,I n s->wpAny (model prog w) A (pyNext it) (λr s₁=>match r with
   | none=>R (.ok .next) s₁
   | some v=>wpAny (model prog w) A (letOwnedTupleGo target it v) (λ_ s₂=>wpAny (model prog w) A (assign target env v) (λ_ s₃ =>
     wpAny (model prog w) A (forIn ifs true λc r=>if r=true then do let ok <- isTrue c env (eval c env);pure (ForInStep.yield ok) else pure (ForInStep.yield r)) (λok s₄ =>
      if ok=true then wpAny (model prog w) A (eval elt env) (λx s₅=>wpAny (model prog w) A (call (.builtin "list.append") [acc,x]) (λ_ s₆=>∃m,m < n/\I m s₆) E s₅) E s₄
      else ∃m,m < n/\I m s₄) E s₃) E s₂) E s₁) E s)
  (n:Nat) (h:I n s):codeAny (model prog w) A (.compLoop (.ListComp elt [⟨target,iter,ifs,0⟩] scope pos) 0 it acc env) R s:=by
 refine codeAny_loop rfl I (λn s hI=>?_) n h;show wpAny _ A ((compTurn (.ListComp elt [⟨target,iter,ifs,0⟩] scope pos) 0 it acc env).onRaise (λx=>do noteFrame x env;theTreesLotGoes x)) _ _ s
 refine wpAny_noted ?_;rw[compTurn_list];refine wpAny_bind (wpAny_standAt (wpAny_bind (wpAny_mono (turn _ n s hI) (λr s₁ h₁=>?_) λ_ _ h'=>h')));cases r with
 | none=>exact wpAny_pure h₁
 | some v =>
  refine wpAny_bind (wpAny_mono h₁ (λ_ s₂ h₂=>wpAny_bind (wpAny_mono h₂ (λ_ s₃ h₃=>wpAny_bind (wpAny_mono h₃ (λok s₄ h₄=>?_) λ_ _ h'=>h')) λ_ _ h'=>h')) λ_ _ h'=>h');cases ok with
  | false=>exact wpAny_pure ⟨rfl,h₄⟩
  | true =>
   exact wpAny_bind (wpAny_bind (wpAny_mono h₄ (λx s₅ h₅=>wpAny_bind (wpAny_mono h₅ (λ_ s₆ h₆=>wpAny_pure (wpAny_pure ⟨rfl,h₆⟩)) λ_ _ h'=>h')) λ_ _ h'=>h'))
def PF (X:Cx) (ifs:List Expr) (t:TT):Prop :=
 ∀(pins:List (Addr×Obj)) (s:Shared) (σ:St) (H:Hp) (Q:Bool->Hp->Prop),Inv X pins σ H s->t σ H Q →
  wpAny (model X.prog X.w) X.A (forIn ifs true λc r=>if r=true then do let ok <- isTrue c X.env (eval c X.env);pure (ForInStep.yield ok) else pure (ForInStep.yield r)) (TP X pins σ Q) X.xe s
def NG:TT:=λ_ H Q=>Q true H
theorem bZ:PF X [] NG:=λ_ _ _ H _ I h=>wpAny_tests_nil ⟨H,I,h⟩
theorem yo (h:PT X c t):PF X [c] t:=λpins s σ H Q I hw=>wpAny_tests_one (h pins s σ H Q I hw)
def oS (σ₀:St) (g:TG) (tf:TT) (te:TE) (x:V) (H:Hp) (NY:V->Hp->Prop) (NN:Hp->Prop):Prop :=
 g x σ₀ H λσ2 H2=>tf σ2 H2 λb H3=>if b=true then te σ2 H3 NY else NN H3
def p4 (J:It) (σ₀:St) (g:TG) (tf:TT) (te:TE) (Q:VK) (H1:Hp):Prop :=
 ∃W:Nat->Nat->List V->Hp->Prop,(∃m,W 0 m [] H1)/\∀i m ys H,W i m ys H →
  (J.stop i H/\ys.length<=sizeLine/\∀p,H p=none->Q (.ref p) (upd H p (.lst ys))) \/
  (J.go i H/\ys.length < sizeLine/\∃(NY:V->Hp->Prop) (NN:Hp->Prop),(∀y H',NY y H'->∃m',m' < m/\W (i+1) m' (ys++[y]) H')/\(∀H',NN H'->∃m',m' < m/\W (i+1) m' ys H') /\
   ∀x H',J.yld i H x H'->oS σ₀ g tf te x H' NY NN)
def CJ (wi:TI) (k:Nat) (cap:List Nat) (g:TG) (tf:TT) (te:TE):TE:=λσ H Q=>wi σ H λJ H1=>p4 J (GS k cap σ) g tf te Q H1
abbrev lobj (its:List Value) (n:Nat):Obj:={ cls:=.type "list",data:=.seq its.toArray n }
section
variable {X:Cx} {own capN:List Str} {cap:List Nat} {scope:Scope} {elt tg iter:Expr} {ifs:List Expr} {pos:Pos} {wi:TI} {g:TG} {tf:TT} {te:TE}
theorem AA (hc:X.calm=true) (B:Bk X.env scope own capN) (hcap:wZ X capN cap)
  (hi:PI X tg iter wi) (hg:∀Z,PG (xm X own capN scope Z) tg g) (hf:∀Z,PF (xm X own capN scope Z) ifs tf) (he:∀Z,PE (xm X own capN scope Z) elt te)
  (hs:∀x,foldedSetIterable iter X.env x=pure x) {σ:St} (I:Inv X pins σ H s) (h:CJ wi own.length cap g tf te σ H Q)
  (fin:∀(D C:Addr) (s':Shared) (H':Hp),Inv X pins σ H' s'->jg X pins H' C->(∃m,s'.heap.Ns C m)->Q (.ref D) H'->compPost (model X.prog X.w) X.A X.xe use Qe (.ref D) C (.ok .next) s') :
  wpAny (model X.prog X.w) X.A (comprehension (.ListComp elt [⟨tg,iter,ifs,0⟩] scope pos) scope X.env fpos (newList []) false (eval iter X.env) use) Qe X.xe s:=by
 refine wpAny_comprehension_free (use:=use) rfl hs (y7 λy hy hk=>I.ok.has y.1 (B.caps _ (B.frees y hy hk).1)) B.kind B.locs ?_;refine fz (hi pins s σ H _ I h) λv s1 h1=>fz h1 λitv s2 h2=>?_
 obtain ⟨it,fp,tn,J,H2,e,I2,T,st2,f2,W,⟨m0,w0⟩,turn⟩:=h2;subst e;have hfp:∀b∈fp,jg X pins H2 b/\@LT.lt Nat instLTNat b s2.heap.objs.size:=λb hb=>⟨f2 b hb,let ⟨_,e,_⟩:=T.obj _ _ st2 b hb;Heap.lt_size e⟩
 refine wpAny_newObj_type (Dk ?_) (bu _);have es:(s2.heap.push { cls:=.type "list",data:=.seq ([]:List Value).toArray }).objs.size=s2.heap.objs.size+1:=Heap.size_push ..
 show codeAny _ _ (.compStart _ 0 (.ref it) (.ref s2.heap.objs.size) { newEnv scope (s2.heap.push { cls:=.type "list",data:=.seq ([]:List Value).toArray }).objs.size X.env.globals (cellsFrom ((s2.heap.push { cls:=.type "list",data:=.seq ([]:List Value).toArray }).objs.size+1) scope.names (dE X.env scope.names [])) X.env.qual none .none (some X.env) builtinsNs with scope:=relabel scope X.env })
  (compPost (model X.prog X.w) X.A X.xe use Qe (.ref s2.heap.objs.size) (s2.heap.push { cls:=.type "list",data:=.seq ([]:List Value).toArray }).objs.size)
  { s2 with heap:=pushCells ((s2.heap.push { cls:=.type "list",data:=.seq ([]:List Value).toArray }).push { cls:=.type "dict",data:=.dict #[] }) scope.names }
 have hk1:∀b o,(s2.heap.push { cls:=.type "list",data:=.seq ([]:List Value).toArray }).get? b=some o->(pushCells ((s2.heap.push { cls:=.type "list",data:=.seq ([]:List Value).toArray }).push { cls:=.type "dict",data:=.dict #[] }) scope.names).get? b=some o :=
  λb o e=>pushCells_keeps _ _ _ _ (Heap.get?_push_of_some _ e)
 have hk:∀b o,s2.heap.get? b=some o->(pushCells ((s2.heap.push { cls:=.type "list",data:=.seq ([]:List Value).toArray }).push { cls:=.type "dict",data:=.dict #[] }) scope.names).get? b=some o:=λb o e=>hk1 b o (Heap.get?_push_of_some _ e)
 have hoD:=hk1 s2.heap.objs.size _ (Heap.get?_push_size s2.heap (o:={ cls:=.type "list",data:=.seq ([]:List Value).toArray }) rfl);have hn:=(Heap.Ns.new (s2.heap.push { cls:=.type "list",data:=.seq ([]:List Value).toArray }) (.type "dict")).keeps (pushCells_keeps scope.names _);have hcl:=Gn ((s2.heap.push { cls:=.type "list",data:=.seq ([]:List Value).toArray }).push { cls:=.type "dict",data:=.dict #[] }) (s2.heap.objs.size+1) (by rw[Heap.size_push,es]) scope.names;rw[es] at hn ⊢;generalize pushCells ((s2.heap.push { cls:=.type "list",data:=.seq ([]:List Value).toArray }).push { cls:=.type "dict",data:=.dict #[] }) scope.names=h3 at hk hoD hn hcl ⊢;have Z:Bz:=⟨s2,H2,fp,s2.heap.objs.size+1⟩
 have I3:Inv (xm X own capN scope ⟨s2,H2,fp,s2.heap.objs.size+1⟩) [(s2.heap.objs.size,lobj [] 0)] (GS own.length cap σ) H2 { s2 with heap:=h3 } :=
  KU (Z:=⟨s2,H2,fp,s2.heap.objs.size+1⟩) (t1:=s2.toks) I2 hc B hcap (oJ _) hcl hfp hk hn (ak _) (cG (d6 _)) hoD (λv z=>nomatch z)
 have st3:tn 0 h3:=T.keep _ _ _ st2 λb _ o e=>hk b o e
 have loop:codeAny (model X.prog X.w) X.A (.compLoop (.ListComp elt [⟨tg,iter,ifs,0⟩] scope pos) 0 (.ref it) (.ref s2.heap.objs.size) (vG X.env scope (s2.heap.objs.size+1))) (compPost (model X.prog X.w) X.A X.xe use Qe (.ref s2.heap.objs.size) (s2.heap.objs.size+1)) { s2 with heap:=h3 }:=by
  refine Ck (λm s'=>∃i ys σ' H' its n,Inv (xm X own capN scope ⟨s2,H2,fp,s2.heap.objs.size+1⟩) [(s2.heap.objs.size,lobj its n)] σ' H' s'/\tn i s'.heap/\(∀b∈fp,H' b=none)/\cC ys its/\W i m ys H') ?_ m0
   ⟨0,[],_,H2,[],0,I3,st3,λb hb=>(f2 b hb).1,.nil,w0⟩
  rintro E n s4 ⟨i,ys,σ4,H4,its,k,I4,st4,fr4,rv,w4⟩
  have fpo:∀{pp:List (Addr×Obj)} {H':Hp},(∀p∈pp,p.1=s2.heap.objs.size)->(∀b∈fp,H' b=none)->∀b∈fp,jg (xm X own capN scope ⟨s2,H2,fp,s2.heap.objs.size+1⟩) pp H' b:=λ{pp H'} hpp hn b hb=>by
   obtain ⟨e1,e2⟩:=I4.ok.exf b hb;refine ⟨hn b hb,e1,I4.ok.exfs b hb,.inl hb,e2,λp hp=>?_⟩;have hp':p∈pp:=by simpa [xm] using hp
   have l:=(hfp b hb).2;rw[hpp p hp'];exact λz=>dG _ (by rw[<- z] at l;exact l)
  have pinD:∀{its:List Value} {n:Nat},∀p∈[(s2.heap.objs.size,lobj its n)],p.1=s2.heap.objs.size:=λp hp=>by simp at hp;rw[hp]
  rcases turn i n ys H4 w4 with ⟨stop,hz,q⟩ | ⟨go,hlt,NY,NN,hNY,hNN,step⟩
  ·refine fz (T.done (xm X own capN scope ⟨s2,H2,fp,s2.heap.objs.size+1⟩) rfl rfl rfl rfl i _ s4 σ4 H4 E I4 (fpo pinD fr4) st4 stop) λr s5 ⟨hr,I5⟩=>?_
   subst hr;have pD:=I5.pin (s2.heap.objs.size,lobj its k) (by simp);have I6:=KW (Z:=⟨s2,H2,fp,s2.heap.objs.size+1⟩) I2 hfp (ak _) I5 rv hz
   have hC:upd H4 s2.heap.objs.size (.lst ys) (s2.heap.objs.size+1)=none:=by
    rw[br (FU (d6 _))];exact I5.free
   obtain ⟨m,hm,_⟩:=I5.loc;exact fin _ _ s5 _ I6 (I2.fpOk (oJ _) hC) ⟨m,hm⟩ (q _ pD.2.1)
  ·refine fz (T.item (xm X own capN scope ⟨s2,H2,fp,s2.heap.objs.size+1⟩) rfl rfl rfl rfl i _ s4 σ4 H4 E I4 (fpo pinD fr4) st4 go) λr s5 ⟨u,hr,h5⟩=>?_
   subst hr;refine fz h5 λ_ s6 ⟨x,H6,I6,r6,y6,st6,fr6⟩=>?_
   have I6':=(Jt (Z:=⟨s2,H2,fp,s2.heap.objs.size+1⟩) I2 B hcap hfp I6).pinned (fpo pinD fr6) (T.obj _ _ st6)
   have back:∀{σ7:St} {H7:Hp} {s7:Shared},Inv (xm X own capN scope ⟨s2,H2,fp,s2.heap.objs.size+1⟩) ([(s2.heap.objs.size,lobj its k)]++ym fp s6.heap) σ7 H7 s7 →
     Inv (xm X own capN scope ⟨s2,H2,fp,s2.heap.objs.size+1⟩) [(s2.heap.objs.size,lobj its k)] σ7 H7 s7/\tn (i+1) s7.heap/\∀b∈fp,H7 b=none:=λ{σ7 H7 s7} I7=>by
    refine ⟨I7.unpinned,T.keep _ _ _ st6 λb hb o e=>(I7.pin (b,o) (bV _ (bV _ (oh hb e)))).1,λb hb=>?_⟩;obtain ⟨o,e,d⟩:=T.obj _ _ st6 b hb;exact (I7.pin (b,o) (bV _ (bV _ (oh hb e)))).2.1
   refine L8 (hg _ _ s6 _ H6 x u _ I6' r6 (step x H6 y6)) λ_ s7 ⟨σ7,H7,I7,q7⟩=>?_
   refine L8 (hf _ _ s7 σ7 H7 _ I7 q7) λok s8 ⟨H8,I8,q8⟩=>?_
   cases ok with
   | false =>
    rw[if_neg a9] at q8 ⊢;obtain ⟨m',hm,w8⟩:=hNN H8 q8;obtain ⟨J1,J2,J3⟩:=back I8;exact ⟨m',hm,i+1,ys,σ7,H8,its,k,J1,J2,J3,rv,w8⟩
   | true =>
    rw[if_pos rfl] at q8 ⊢;refine L8 (he _ _ s8 σ7 H8 _ I8 q8) λz s9 ⟨y,H9,I9,r9,q9⟩=>?_
    obtain ⟨J1,J2,J3⟩:=back I9;obtain ⟨m',hm,w9⟩:=hNY y H9 q9;have pD:=J1.pin (s2.heap.objs.size,lobj its k) (by simp);have hl:=rv.length;refine call_meets F.slot_list_append ⟨_,pD.1,rfl⟩ F.entry_list_append (F.args_list_append_2 _ _) (PySem.list_append s2.heap.objs.size its.toArray k z (by rw[aL];lia)) ⟨pD.1,?_⟩;have e9:=jv pD.1 (λa=>a.push z);have e9':(its.toArray.push z)=(its++[z]).toArray:=by simp
    rw[e9'] at e9;obtain ⟨n',e9⟩:∃n',(s9.heap.update s2.heap.objs.size (Obj.mapSeq λa=>a.push z)).get? s2.heap.objs.size=some (lobj (its++[z]) n'):=⟨_,e9⟩
    have J4:Inv (xm X own capN scope ⟨s2,H2,fp,s2.heap.objs.size+1⟩) [] σ7 H9 { s9 with heap:=s9.heap.update s2.heap.objs.size (Obj.mapSeq λa=>a.push z),toks:=s9.toks } :=
     (J1.pins_of (pins':=[]) λp hp=>nomatch hp).turned (λb o hb e=>(Heap.get?_update_other s9.heap _ (Ne.symm hb)).trans e) pD.2.1 pD.2.2.1 (.inr (ak _)) (λx c hx z=>by
      rcases gX (Z:=⟨s2,H2,fp,s2.heap.objs.size+1⟩) B I2 hx with ⟨_,m⟩ | ⟨_,_,m⟩
      ·have:=(hcl.empty _ _ m).2;have z':@Eq Nat c s2.heap.objs.size:=z
       lia
      ·have:=Cm (Z:=⟨s2,H2,fp,s2.heap.objs.size+1⟩) I2 m;rw[z] at this;exact dG _ this) λp hp=>by simp [xm] at hp
    have nfp:∀b∈fp,b≠s2.heap.objs.size:=λb hb z=>by have:=(hfp b hb).2;rw[z] at this;exact dG _ this
    refine ⟨m',hm,i+1,ys++[y],σ7,H9,its++[z],n',J4.pins_of λp hp=>?_,T.keep _ _ _ J2 λb hb o e=>(Heap.get?_update_other s9.heap _ (Ne.symm (nfp b hb))).trans e,J3,rv.append (.cons r9 .nil),w9⟩;have ep:p=(s2.heap.objs.size,lobj (its++[z]) n'):=by simpa using hp
    rw[ep];exact ⟨e9,pD.2.1,pD.2.2.1,pD.2.2.2.1,λv z=>nomatch z⟩
 exact codeAny_compStart_list loop (T.self _ _ _ _ _ st3 loop)
theorem bW (own capN:List Str) (cap:List Nat) (hi:PI X tg iter wi) (hg:∀Z,PG (xm X own capN scope Z) tg g) (hf:∀Z,PF (xm X own capN scope Z) ifs tf) (he:∀Z,PE (xm X own capN scope Z) elt te)
  (h1:O0 scope own capN=true:=by decide +kernel) (h2:AG X.env capN=true:=by rfl) (hcap:wZ X capN cap:=by rfl) (hc:X.calm=true:=by rfl) (hs:∀x,foldedSetIterable iter X.env x=pure x:=by intro _;rfl) :
  PE X (.ListComp elt [⟨tg,iter,ifs,0⟩] scope pos) (CJ wi own.length cap g tf te):=by
 intro pins s σ H Q I h;rw[eval_ListComp];refine AA (use:=none) hc (Bk.of h1 h2) hcap hi hg hf he hs I h λD C s' H' I' fC hm q=>?_
 obtain ⟨m,hm⟩:=hm;refine ⟨m,hm,λh' hs'=>?_⟩;obtain ⟨f0,f1,f2,f3,f4,f5⟩:=fC;exact ⟨.ref D,H',I'.turned (t':=s'.toks) (λb o hb e=>(hs'.2 b hb).trans e) f0 f1 f3 f4 f5,rfl,q⟩
theorem gF (i:Nat) (own capN:List Str) (cap:List Nat) {x:Str} {pos' spos:Pos} (hN:X.N.Nodup) (hi':X.N[i]?=some x) (hx:X.env.scope.names.lookup x=some .local) (hi:PI X tg iter wi) (hg:∀Z,PG (xm X own capN scope Z) tg g) (hf:∀Z,PF (xm X own capN scope Z) ifs tf) (he:∀Z,PE (xm X own capN scope Z) elt te)
  (h1:O0 scope own capN=true:=by decide +kernel) (h2:AG X.env capN=true:=by rfl) (hcap:wZ X capN cap:=by rfl) (hc:X.calm=true:=by rfl) (hs:∀x,foldedSetIterable iter X.env x=pure x:=by intro _;rfl)
  (hsw:swapsWith (.ListComp elt [⟨tg,iter,ifs,0⟩] scope pos) (some (.Name x pos')) spos.line X.env=pure true:=by rfl) :
  PS X (.Assign [.Name x pos'] (.ListComp elt [⟨tg,iter,ifs,0⟩] scope pos) spos) (JN (CJ wi own.length cap g tf te) (Fu i)):=by
 intro pins s σ H D I h;rw[exec_Assign_Name_used _ _ _ _ hsw];refine wpAny_bind (wpAny_standAt (wpAny_bind ?_));rw[arm_evalThenUse_ListComp];refine wpAny_bind (AA (Q:=λv H1=>D.nx (σ.set i (some v)) H1) (use:=some _) hc (Bk.of h1 h2) hcap hi hg hf he hs I h λL C s' H' I' fC hm q=>?_);obtain ⟨m,hm⟩:=hm;obtain ⟨f0,f1,f2,f3,f4,f5⟩:=fC;refine wpAny_assign_Name (zW I' hN hi' (.inl hx) (v:=.ref L) rfl (λs'' I'' ⟨a,sb,ha⟩=>?_) (.inr hx))
 have hCa:C≠a:=by
  rcases ha with e | e
  ·rw[e];exact f1
  ·exact (f4 x a e).symm
 refine ⟨m,hm.at' λo e=>(sb.2 C hCa).trans e,λh' hs'=>?_⟩;have I3:=I''.turned (h':=h') (t':=s''.toks) (λb o hb e=>(hs'.2 b hb).trans e) f0 f1 f3 f4 f5;exact wpAny_pure (wpAny_pure ⟨_,H',I3,q⟩)
end
section
variable {K:FG9} {a:Addr} {xs:List V} {g:TG} {tf:TT} {te:TE} {Q:VK} {σ₀:St} {H:Hp}
theorem dd (Pv:Nat->List V->Hp->Prop) (hz:xs.length<=sizeLine) (h0:Pv 0 [] H) (hl:∀i ys H,i<=xs.length->Pv i ys H->bO K H a xs)
  (hs:∀i x ys H,xs[i]?=some x->ys.length<=i->Pv i ys H->oS σ₀ g tf te x H (λy H'=>Pv (i+1) (ys++[y]) H') (λH'=>Pv (i+1) ys H'))
  (hd:∀ys H,ys.length<=xs.length->Pv xs.length ys H->∀p,H p=none->Q (.ref p) (upd H p (.lst ys))):p4 (K5 K a) σ₀ g tf te Q H:=by
 refine ⟨λi m ys H=>m=xs.length - i/\i<=xs.length/\ys.length<=i/\Pv i ys H,⟨xs.length,by simp,bu _,bu _,h0⟩,?_⟩;rintro i m ys H ⟨rfl,hi,hy,p⟩;have q:=hl i ys H hi p;by_cases hlt:i < xs.length
 ·refine .inr ⟨⟨xs,xs[i],q,by simp [hlt]⟩,by lia,λy H'=>Pv (i+1) (ys++[y]) H',λH'=>Pv (i+1) ys H',λy H' p'=>⟨xs.length - (i+1),by lia,rfl,hlt,by rw[av,bf];lia,p'⟩,λH' p'=>⟨xs.length - (i+1),by lia,rfl,hlt,by lia,p'⟩,λx H' y=>?_⟩;obtain ⟨e,y⟩:=y;subst e;exact hs i x ys _ (y xs q) hy p
 ·have e:i=xs.length:=by lia
  subst e;exact .inl ⟨⟨xs,q,ak _⟩,by lia,hd ys H hy p⟩
theorem gR {lo:Int} (Pv:Nat->List V->Hp->Prop) (hz:n<=sizeLine) (h0:Pv 0 [] H)
  (hs:∀i ys H,i < n->ys.length<=i->Pv i ys H->oS σ₀ g tf te (.int (lo+i)) H (λy H'=>Pv (i+1) (ys++[y]) H') (λH'=>Pv (i+1) ys H'))
  (hd:∀ys H,ys.length<=n->Pv n ys H->∀p,H p=none->Q (.ref p) (upd H p (.lst ys))):p4 (DN lo n) σ₀ g tf te Q H:=by
 refine ⟨λi m ys H=>m=n - i/\i<=n/\ys.length<=i/\Pv i ys H,⟨n,by simp,bu _,bu _,h0⟩,?_⟩;rintro i m ys H ⟨rfl,hi,hy,p⟩;by_cases hlt:i < n
 ·refine .inr ⟨hlt,by lia,λy H'=>Pv (i+1) (ys++[y]) H',λH'=>Pv (i+1) ys H',λy H' p'=>⟨n - (i+1),by lia,rfl,hlt,by rw[av,bf];lia,p'⟩,λH' p'=>⟨n - (i+1),by lia,rfl,hlt,by lia,p'⟩,λx H' y=>?_⟩;obtain ⟨e,y⟩:=y;subst e y;exact hs i ys _ hlt hy p
 ·have e:i=n:=by lia
  subst e;exact .inl ⟨ak _,by lia,hd ys H hy p⟩
end
open Nm
def fh (i j:Int):Prop:=Nr i j\/∃m n,Sz m i/\Sz n j/\m+n<=1000000
def oI (i j:Int):Prop:=j≠0/\Sz 8999 j
theorem za (h:Sz k i):Builtin.Int.intBits i<=k:=by
 unfold Builtin.Int.intBits;by_cases e:i=0
 ·subst e;simp
 ·have e':(i == 0)=false:=by simpa using e
  rw[e'];have hn:i.natAbs≠0:=by lia
  have:=(Nat.log2_lt hn).mpr h;simp only[gJ,if_false]
  lia
theorem fh.ok (h:fh i j):IntMulOk i j:=by
 rcases h with h | ⟨m,n,h1,h2,h3⟩
 ·exact h.ok
 ·have e:(2:Nat)^20=1048576:=by decide
  exact .of_bits (by have:=za h1;lia) (by have:=za h2;lia)
section
variable {X:Cx} {a b:Expr} {ta tb:TE} {pos:Pos}
theorem cQ:vK X (binaryOp .Mult) (rI fh λi j=>.int (i*j)):=OY λ_ _ _ _ _ _ _ hc q=>mul_int q hc.ok
theorem ik:vK X (binaryOp .FloorDiv) (rI oI λi j=>.int (i.fdiv j)):=OY λi j _ _ _ _ _ hc q=>by
 refine floordiv_int hc.1 q (.inl (PyProof.noPylong_of_log2 ?_));have hn:j.natAbs≠0:=by have:=hc.1;lia
 have:=(Nat.log2_lt hn).mpr hc.2
 lia
def NI (t u:TS):TS:=λD σ H=>∃N:St->Hp->Prop,t { D with nx:=N } σ H/\∀σ' H',N σ' H'->u D σ' H'
theorem gV {st:Stmt} (h1:PS X st t) (h2:EE X rest u):EE X (st :: rest) (NI t u):=by
 intro pins s σ H D I h;obtain ⟨N,h,k⟩:=h;refine wpAny_execs_cons (fz (h1 pins s σ H { D with nx:=N } I h) λf s1 q=>?_);cases f with
 | next =>
  obtain ⟨σ',H',I',q⟩:=q;exact h2 pins s1 σ' H' D I' (k _ _ q)
 | ret v=>exact q
 | brk=>exact q
 | cont=>exact q
def Ls (K:FG9):V->V->Hp->VK->Prop:=λo i H Q=>∃p xs k v,o=.ref p/\i=.int k/\bO K H p xs/\Ez xs k=some v/\Q v H
theorem IX:ON X (Ls X.K):=by
 intro pins s σ H o i ov iv Q I ro ri h;obtain ⟨p,xs,k,z,rfl,rfl,hq,he,q⟩:=h;cases ro;obtain ⟨t,rfl⟩:=ri;obtain ⟨its,r,pl,hz⟩:=I.list hq;obtain ⟨j,h1,h2,h3,h4,h5⟩:=Cn he;obtain ⟨w,ew,rw'⟩:=r.get h2;have hl:=r.length;have hn:=yL;have fin:EP X pins σ Q w s:=⟨z,H,I,rw',q⟩;by_cases h0:0<=k
 ·have hj:k.toNat=j:=by
   rw[seqIndex_of h0 h5] at h1;exact cf h1
  exact wpAny_getItem_list pl.isList h0 (by lia) (by rw[hj];simpa using ew) fin
 ·have hj:(k+(its.toArray.size:Int)).toNat=j:=by
   rw[seqIndex_neg (by lia) h4] at h1;rw[aL,<- hl];exact cf h1
  exact wpAny_getItem_list_neg pl.isList (by lia) (by rw[aL] <;> lia) (by lia) (by rw[hj];simpa using ew) fin
def Gg (K:FG9) (T:String):V->Hp->VK->Prop:=λx H Q=>∃t b,vI K H x t/\PySem.W.kitOne K t (.type T)=some b/\Q (.bl b) H
theorem vo {c:Str} {T:String} {p p2:Pos} (hg:Gl X "isinstance") (hm:X.mg "isinstance"=none) (hb:bootBuiltins c=some (.type T)) (hmc:X.mg c=none) (ha:PE X a ta) (hgc:Gl X c:=by rfl) (hn:c≠"__name__":=by decide)
  (hd:(c == ("__debug__":Str))=false:=by decide) (he:starEach [a,.Name c p2] X.env=[(false,eval a X.env),(false,eval (.Name c p2) X.env)]:=by rfl)
  (hpl:(backTo pos (starEach [.Name c p2] X.env)).any (·.1)=false:=by rfl) (he2:starEach [.Name c p2] X.env=[(false,eval (.Name c p2) X.env)]:=by rfl):PE X (.Call (.Name "isinstance" p) [a,.Name c p2] [] pos) (OX (Gg X.K T) ta):=by
 intro pins s σ H Q I h;refine wpAny_Call_Name_kw (jc I hg hm PyProof.Rows.boot_isinstance ?_);have hA:PA X [a,.Name c p2] (oT ta (oT (tC (.ty T)) DX)):=ae ha (ae (Fc hgc hmc hb rfl hn hd) aj he2) (by rw[he,he2])
 have hq:oT ta (oT (tC (.ty T)) DX) σ H (λvs H1=>∃x,vs=[x,.ty T]/\Gg X.K T x H1 Q):=by
  show ta σ H λx H1=>∃x',[x,V.ty T]=[x',V.ty T]/\Gg X.K T x' H1 Q
  have e:(λx H1=>∃x',[x,V.ty T]=[x',V.ty T]/\Gg X.K T x' H1 Q)=λx H1=>Gg X.K T x H1 Q:=by
   funext x H1;apply propext;constructor
   ·rintro ⟨x',e,q⟩;cases e;exact q
   ·intro q;exact ⟨x,rfl,q⟩
  rw[e];exact h
 refine PyProof.Rows.callWith_builtin1 (fz (hA pos pins s σ H _ I hq) λus s1 ⟨vs,H1,I1,r1,x,e,q1⟩=>?_) (by rw[he,he2]) hpl;subst e;obtain ⟨u,w',rfl,ru,rt⟩:=vals2 r1;cases rt;obtain ⟨t,bb,ty,ek,q⟩:=q1;exact Al I1 ru ty ek λtk=>⟨.bl bb,H1,I1.tok tk,rfl,q⟩
end
structure Kind (α:Type) [DecidableEq α] where
 R:FG9->Hp->V->α->Prop
 d:Nat
 inj:∀{X:Cx} {pins:List (Addr×Obj)} {σ:St} {H:Hp} {s:Shared} {x:V} {a b:α},Inv X pins σ H s->R X.K H x a->R X.K H x b->a=b
 rc:∀{X:Cx} {pins:List (Addr×Obj)} {σ:St} {H:Hp} {s:Shared} {x y:V} {v u:Value} {a b:α} {A:Around},Inv X pins σ H s->RelV x v->RelV y u->R X.K H x a->R X.K H y b->A.units+d < cLine->SeqAt.RcAt A s v u (decide (a=b))
 ne:∀{X:Cx} {pins:List (Addr×Obj)} {σ:St} {H:Hp} {s:Shared} {x y:V} {v u:Value} {a b:α} {A:Around},Inv X pins σ H s->RelV x v->RelV y u->R X.K H x a->R X.K H y b->A.units+d < cLine->SeqAt.RcNeAt A s v u (!decide (a=b))
 eq:∀{X:Cx} {pins:List (Addr×Obj)} {σ:St} {H:Hp} {s:Shared} {x y:V} {v u:Value} {a b:α} {A:Around},Inv X pins σ H s->RelV x v->RelV y u->R X.K H x a->R X.K H y b->A.units+d < cLine->SeqAt.EqAt A s v u (decide (a=b))
def Eo:Kind Int where
 R:=λ_ _ x i=>x=.int i
 d:=0
 inj:=λ_ h1 h2=>by rw[h1] at h2;cases h2;rfl
 rc:=λ{X pins σ H s x y v u a b A} I rx ry h1 h2 _=>by
  subst h1 h2;obtain ⟨t,rfl⟩:=rx;obtain ⟨t',rfl⟩:=ry;have q:=SeqAt.RcAt.int_int (A:=A) (s:=s) a t b t';rwa [zD] at q
 ne:=λ{X pins σ H s x y v u a b A} I rx ry h1 h2 _=>by
  subst h1 h2;obtain ⟨t,rfl⟩:=rx;obtain ⟨t',rfl⟩:=ry;have q:=SeqAt.RcNeAt.int_int (A:=A) (s:=s) a t b t';rwa [zD] at q
 eq:=λ{X pins σ H s x y v u a b A} I rx ry h1 h2 _=>by
  subst h1 h2;obtain ⟨t,rfl⟩:=rx;obtain ⟨t',rfl⟩:=ry;have q:=SeqAt.EqAt.int_int (A:=A) (s:=s) a t b t';rwa [zD] at q
theorem iX {α β:Type} {F:α->β->Prop}:∀{l1:List α} {l2:List β} {i:Nat} (_:Paired F l1 l2) (h1:i < l1.length) (h2:i < l2.length),F l1[i] l2[i]
 | _,_,_,.nil,h1,_=>absurd h1 (fE _)
 | _,_,0,.cons r _,_,_=>r
 | _,_,i+1,.cons _ t,h1,h2=>iX (i:=i) t (Nat.lt_of_succ_lt_succ h1) (Nat.lt_of_succ_lt_succ h2)
theorem kh {α β:Type} {F:α->β->Prop} (hF:∀a b x,F a x->F b x->a=b):∀{l1 l2:List α} {l:List β},Paired F l1 l->Paired F l2 l->l1=l2
 | _,_,_,.nil,.nil=>rfl
 | _,_,_,.cons r t,.cons r' t'=>by rw[hF _ _ _ r r',kh hF t t']
theorem tV {α:Type} [DecidableEq α] (as bs:List α) (h:as.length=bs.length):(List.range as.length).all (λj=>decide (as[j]?=bs[j]?))=decide (as=bs):=by
 rw[j8,mY,decide_eq_true_iff];constructor
 ·intro q;apply FV;intro i;by_cases hi:i < as.length
  ·exact of_decide_eq_true (q i (rD.mpr hi))
  ·rw[aT (by lia),aT (by lia)]
 ·rintro rfl i _;simp
section
variable {α:Type} [DecidableEq α] (k:Kind α)
theorem Kind.items {X:Cx} {pins:List (Addr×Obj)} {σ:St} {H:Hp} {s:Shared} {A:Around} (I:Inv X pins σ H s) (hA:A.units+k.d < cLine) {xs ys:List V} {us ws:List Value} {as bs:List α}
  (rx:cC xs us) (ry:cC ys ws) (ha:Paired (λa x=>k.R X.K H x a) as xs) (hb:Paired (λa x=>k.R X.K H x a) bs ys) :
  ∀j (h1:j < us.toArray.size) (h2:j < ws.toArray.size),SeqAt.EqAt A s us.toArray[j] ws.toArray[j] (decide (as[j]?=bs[j]?)):=λj h1 h2=>by
 have l1:j < us.length:=by simpa using h1
 have l2:j < ws.length:=by simpa using h2
 have e1:=rx.length;have e2:=ry.length;have e3:=ha.length;have e4:=hb.length;obtain ⟨u,hu,ru⟩:=rx.get (i:=j) (x:=xs[j]'(by lia)) (by simp);obtain ⟨w,hw,rw'⟩:=ry.get (i:=j) (x:=ys[j]'(by lia)) (by simp);have q:=k.eq (A:=A) I ru rw' (iX ha (by lia) (by lia)) (iX hb (by lia) (by lia)) hA
 have eu:us.toArray[j]=u:=by
  have:=hu;rw[af l1] at this;simpa using this
 have ew:ws.toArray[j]=w:=by
  have:=hw;rw[af l2] at this;simpa using this
 rw[eu,ew,af (show j < as.length by lia),af (show j < bs.length by lia)];have e5:decide (some as[j]=some bs[j])=decide (as[j]=bs[j]):=by simp
 rw[e5];exact q
theorem A6 {α:Type} [DecidableEq α] (as bs:List α) {n m:Nat} (h1:as.length=n) (h2:bs.length=m):((List.range (min n m)).all (λj=>decide (as[j]?=bs[j]?)) && n == m)=decide (as=bs):=by
 subst h1 h2;by_cases e:as.length=bs.length
 ·rw[show min as.length bs.length=as.length by lia,tV as bs e];simp [e]
 ·have h1:(as.length == bs.length)=false:=by simpa using e
  rw[h1,Bool.and_false];exact (decide_eq_false λz=>e (by rw[z])).symm
def Pg:Kind (List α) where
 R:=λK H x as=>∃p xs,x=.ref p/\kD K H p xs/\Paired (λa x=>k.R K H x a) as xs
 d:=k.d+1
 inj:=λ{X pins σ H s x a b} I h1 h2=>by
  obtain ⟨p,xs,rfl,hp,pa⟩:=h1;obtain ⟨q,ys,e,hq,pb⟩:=h2;cases e;have e:=I.tuple_inj hp hq;subst e;exact kh (F:=λa x=>k.R X.K H x a) (λa b x=>k.inj I) pa pb
 rc:=λ{X pins σ H s x y v u a b A} I rx ry h1 h2 hA=>by
  obtain ⟨p,xs,rfl,hp,pa⟩:=h1;obtain ⟨q,ys,rfl,hq,pb⟩:=h2;cases rx;cases ry;obtain ⟨us,r1,t1,_⟩:=I.tuple hp;obtain ⟨ws,r2,t2,_⟩:=I.tuple hq;have z:=SeqAt.RcAt.tuples (A:=A) (e:=λj=>decide (a[j]?=b[j]?)) (show s.heap.IsTuple p us.toArray from t1) (show s.heap.IsTuple q ws.toArray from t2) (by lia) (k.items (A:=A.in1) I (by show A.units+1+k.d < cLine;lia) r1 r2 pa pb);rwa [A6 a b (by rw[pa.length,r1.length];simp) (by rw[pb.length,r2.length];simp)] at z
 ne:=λ{X pins σ H s x y v u a b A} I rx ry h1 h2 hA=>by
  obtain ⟨p,xs,rfl,hp,pa⟩:=h1;obtain ⟨q,ys,rfl,hq,pb⟩:=h2;cases rx;cases ry;obtain ⟨us,r1,t1,_⟩:=I.tuple hp;obtain ⟨ws,r2,t2,_⟩:=I.tuple hq;have z:=SeqAt.RcNeAt.tuples (A:=A) (e:=λj=>decide (a[j]?=b[j]?)) (show s.heap.IsTuple p us.toArray from t1) (show s.heap.IsTuple q ws.toArray from t2) (by lia) (k.items (A:=A.in1) I (by show A.units+1+k.d < cLine;lia) r1 r2 pa pb);rwa [A6 a b (by rw[pa.length,r1.length];simp) (by rw[pb.length,r2.length];simp)] at z
 eq:=λ{X pins σ H s x y v u a b A} I rx ry h1 h2 hA=>by
  obtain ⟨p,xs,rfl,hp,pa⟩:=h1;obtain ⟨q,ys,rfl,hq,pb⟩:=h2;cases rx;cases ry;by_cases e:p=q
  ·subst e;have e:=I.tuple_inj hp hq;subst e;rw[kh (F:=λa x=>k.R X.K H x a) (λa b x=>k.inj I) pa pb,decide_eq_true rfl];exact SeqAt.EqAt.same _
  ·obtain ⟨us,r1,t1,_⟩:=I.tuple hp;obtain ⟨ws,r2,t2,_⟩:=I.tuple hq;have z:=SeqAt.RcAt.tuples (A:=A) (e:=λj=>decide (a[j]?=b[j]?)) (show s.heap.IsTuple p us.toArray from t1) (show s.heap.IsTuple q ws.toArray from t2) (by lia) (k.items (A:=A.in1) I (by show A.units+1+k.d < cLine;lia) r1 r2 pa pb);rw[A6 a b (by rw[pa.length,r1.length];simp) (by rw[pb.length,r2.length];simp)] at z;exact .of_refs e z
theorem En {X:Cx} {pins:List (Addr×Obj)} {σ:St} {H:Hp} {s:Shared} {p q:Addr} {xs ys:List V} {a b:List α} {A:Around} (I:Inv X pins σ H s) (hp:bO X.K H p xs) (hq:bO X.K H q ys)
  (pa:Paired (λa x=>k.R X.K H x a) a xs) (pb:Paired (λa x=>k.R X.K H x a) b ys) (hA:A.units+(k.d+1) < cLine) :
  SeqAt.RcAt A s (.ref p) (.ref q) (decide (a=b))/\SeqAt.RcNeAt A s (.ref p) (.ref q) (!decide (a=b)):=by
 obtain ⟨us,r1,t1,_⟩:=I.list hp;obtain ⟨ws,r2,t2,_⟩:=I.list hq;have l1:=r1.length;have l2:=r2.length;have l3:=pa.length;have l4:=pb.length;by_cases e:us.length=ws.length
 ·have it:=k.items (A:=A.in1) I (by show A.units+1+k.d < cLine;lia) r1 r2 pa pb;have z:=SeqAt.RcAt.lists (A:=A) (e:=λj=>decide (a[j]?=b[j]?)) t1.isList t2.isList (by simpa using e) (by lia) it;have z2:=SeqAt.RcNeAt.lists (A:=A) (e:=λj=>decide (a[j]?=b[j]?)) t1.isList t2.isList (by simpa using e) (by lia) it;have e1:us.toArray.size=a.length:=by rw[aL];lia
  rw[e1,tV a b (by lia)] at z z2;exact ⟨z,z2⟩
 ·have hne:¬a=b:=λz=>e (by have:=congrArg List.length z;lia)
  rw[decide_eq_false hne];exact ⟨SeqAt.RcAt.lists_lengths t1.isList t2.isList (by simpa using e) (by lia),SeqAt.RcNeAt.lists_lengths t1.isList t2.isList (by simpa using e) (by lia)⟩
def IK:Kind (List α) where
 R:=λK H x as=>∃p xs,x=.ref p/\bO K H p xs/\Paired (λa x=>k.R K H x a) as xs
 d:=k.d+1
 inj:=λ{X pins σ H s x a b} I h1 h2=>by
  obtain ⟨p,xs,rfl,hp,pa⟩:=h1;obtain ⟨q,ys,e,hq,pb⟩:=h2;cases e;have e:=I.list_inj hp hq;subst e;exact kh (F:=λa x=>k.R X.K H x a) (λa b x=>k.inj I) pa pb
 rc:=λ{X pins σ H s x y v u a b A} I rx ry h1 h2 hA=>by
  obtain ⟨p,xs,rfl,hp,pa⟩:=h1;obtain ⟨q,ys,rfl,hq,pb⟩:=h2;cases rx;cases ry;exact (En k I hp hq pa pb hA).1
 ne:=λ{X pins σ H s x y v u a b A} I rx ry h1 h2 hA=>by
  obtain ⟨p,xs,rfl,hp,pa⟩:=h1;obtain ⟨q,ys,rfl,hq,pb⟩:=h2;cases rx;cases ry;exact (En k I hp hq pa pb hA).2
 eq:=λ{X pins σ H s x y v u a b A} I rx ry h1 h2 hA=>by
  obtain ⟨p,xs,rfl,hp,pa⟩:=h1;obtain ⟨q,ys,rfl,hq,pb⟩:=h2;cases rx;cases ry;by_cases e:p=q
  ·subst e;have e:=I.list_inj hp hq;subst e;rw[kh (F:=λa x=>k.R X.K H x a) (λa b x=>k.inj I) pa pb,decide_eq_true rfl];exact SeqAt.EqAt.same _
  ·exact .of_refs e (En k I hp hq pa pb hA).1
def Kind.via {β:Type} [DecidableEq β] (f:β->α) (fi:∀a b,f a=f b->a=b) (R':FG9->Hp->V->β->Prop) (im:∀{K H x b},R' K H x b->k.R K H x (f b)):Kind β where
 R:=R'
 d:=k.d
 inj:=λI h1 h2=>fi _ _ (k.inj I (im h1) (im h2))
 rc:=λ{X pins σ H s x y v u a b A} I rx ry h1 h2 hA=>by
  have z:=k.rc (A:=A) I rx ry (im h1) (im h2) hA;rwa [decide_eq_decide.mpr (show f a=f b↔a=b from ⟨fi a b,λe=>by rw[e]⟩)] at z
 ne:=λ{X pins σ H s x y v u a b A} I rx ry h1 h2 hA=>by
  have z:=k.ne (A:=A) I rx ry (im h1) (im h2) hA;rwa [decide_eq_decide.mpr (show f a=f b↔a=b from ⟨fi a b,λe=>by rw[e]⟩)] at z
 eq:=λ{X pins σ H s x y v u a b A} I rx ry h1 h2 hA=>by
  have z:=k.eq (A:=A) I rx ry (im h1) (im h2) hA;rwa [decide_eq_decide.mpr (show f a=f b↔a=b from ⟨fi a b,λe=>by rw[e]⟩)] at z
end
def DJ (K:FG9) (H:Hp) (x:V) (n:Int×Int):Prop:=∃p,x=.ref p/\kD K H p [.int n.1,.int n.2]
def Ow:Kind (Int×Int):=(Pg Eo).via (λn=>[n.1,n.2]) (λa b e=>by cases a;cases b;simp at e;rw[e.1,e.2]) DJ λ⟨p,e,h⟩=>⟨p,_,e,h,.cons rfl (.cons rfl .nil)⟩
def Pa (K:FG9):R2:=λx y H Q=>∃(α:Type) (_:DecidableEq α) (k:Kind α) (a b:α),k.d<=50/\k.R K H x a/\k.R K H y b/\Q (.bl (decide (a=b))) H
def Oo (K:FG9):R2:=λx y H Q=>∃(α:Type) (_:DecidableEq α) (k:Kind α) (a b:α),k.d<=50/\k.R K H x a/\k.R K H y b/\Q (.bl (!decide (a=b))) H
theorem Il (hu:X.A.units+50 < cLine):vK X (compareOp .Eq) (Pa X.K):=by
 intro pins s σ H x y v u Q I rx ry h;obtain ⟨α,_,k,a,b,hd,ha,hb,q⟩:=h;exact k.rc (A:=X.A) I rx ry ha hb (by lia) _ _ _ _ ⟨.bl (decide (a=b)),H,I,rfl,q⟩
theorem vp (hu:X.A.units+50 < cLine):vK X (compareOp .NotEq) (Oo X.K):=by
 intro pins s σ H x y v u Q I rx ry h;obtain ⟨α,_,k,a,b,hd,ha,hb,q⟩:=h;exact k.ne (A:=X.A) I rx ry ha hb (by lia) _ _ _ _ ⟨.bl (!decide (a=b)),H,I,rfl,q⟩
theorem zR (hr:jS k A):A.units+50 < cLine:=by have:=hr.units;lia
def Inner (H:Hp) (p q:Addr):Prop:=∃a b c:Int,H p=some (.lst [.int a,.int b,.int c,.ref q])
def cU (p:Addr) (H H':Hp):Prop:=(∀b o,H b=some o->b≠p->H' b=some o)/\∀q,Inner H p q->Inner H' p q
theorem cU.refl (H:Hp):cU p H H:=⟨λ_ _ h _=>h,λ_ h=>h⟩
theorem cU.trans (a:cU p H H1) (b:cU p H1 H2):cU p H H2:=⟨λc o h n=>b.1 c o (a.1 c o h n) n,λq h=>b.2 q (a.2 q h)⟩
theorem Inner.inj (h:Inner H p q) (h':Inner H p q'):q=q':=by
 obtain ⟨a,b,c,e⟩:=h;obtain ⟨a',b',c',e'⟩:=h';rw[e] at e';have:=HO.lst.inj (cf e');simp at this;exact this.2.2.2
theorem cU.set (h:H p=some (.lst [.int a,.int b,.int c,.ref q])):cU p H (upd H p (.lst [.int a',.int b',.int c',.ref q])) :=
 ⟨λb u h n=>by rw[br n];exact h,λq' h'=>by
  rw[(Inner.inj ⟨a,b,c,h⟩ h').symm];exact ⟨a',b',c',aH⟩⟩
theorem aF.upto (h:aF H H'):cU p H H':=⟨λb o e _=>h b o e,λq ⟨a,b,c,e⟩=>⟨a,b,c,h _ _ e⟩⟩
theorem aF.new (h:H p=Option.none):aF H (upd H p o):=λb u e=>by rw[br (eO e h)];exact e
theorem aF.sqt {K:FG9} (e:aF H H') (h:kD K H a xs):kD K H' a xs:=by
 rcases h with (h | ⟨o,h⟩) | h
 ·exact .inl (.inl (e _ _ h))
 ·exact .inl (.inr ⟨o,e _ _ h⟩)
 ·exact .inr h
theorem aF.num {K:FG9} (e:aF H H') (h:DJ K H x n):DJ K H' x n:=by obtain ⟨p,q,r⟩:=h;exact ⟨p,q,e.sqt r⟩
section
variable {σ:St} {H:Hp} {D:Ends}
theorem aP {t:TS} (e:σ0=σ) (h:t D σ H):t D σ0 H:=by rw[e];exact h
theorem Ml (h:t { D with nx:=u D } σ H):NJ t u D σ H:=h
theorem Kc (h:D.nx σ H):Le D σ H:=h
theorem Mz {g:TG} (h:te σ H λx H1=>g x σ H1 D.nx):JN te g D σ H:=h
theorem Ie (h:Q (σ.set i (some v)) H):Fu i v σ H Q:=h
theorem Mm (h:te σ H D.rt):NK te D σ H:=h
theorem Mu (h:c σ H λb H1=>if b=true then t D σ H1 else u D σ H1):NQ c t u D σ H:=h
theorem Kl (h:te σ H λ_ H1=>D.nx σ H1):Lj te D σ H:=h
theorem Mn (h:ta σ H λvs H1=>∃v w,vs=[v,w]/\D.nx ((σ.set i (some v)).set j (some w)) H1):NL i j ta D σ H:=h
theorem Kp 
  (h:to σ H λo H1=>ti σ H1 λi H2=>tget o i H2 λx H3=>te σ H3 λy H4=>tip x y H4 λz H5=>tset o i z H5 λH6=>D.nx σ H6):Lk to ti te tget tip tset D σ H:=h
theorem Mt (h:Q (.int (f i j)) H):ipI f (.int i) (.int j) H Q:=⟨i,j,rfl,rfl,h⟩
theorem Mw {g:TG} (h:wi σ H λJ H1=>∃W:Nat->Nat->St->Hp->Prop,(∃m,W 0 m σ H1)/\∀i m σ H,W i m σ H →
  (J.stop i H/\D.nx σ H)\/(J.go i H/\∃N:St->Hp->Prop,(∀σ' H',N σ' H'->∃m',m' < m/\W (i+1) m' σ' H')/\∀x H',J.yld i H x H'->g x σ H' λσ2 H2=>tb { D with nx:=N,ct:=N,bk:=D.nx } σ2 H2)):NR wi g tb D σ H:=h
variable {Q:VK} {QA:List V->Hp->Prop} {QB:Bool->Hp->Prop}
theorem Mi (e:σ[i]?=some (some v)) (h:Q v H):L9 i σ H Q:=⟨v,e,h⟩
theorem O8 (h:Q v H):tC v σ H Q:=h
theorem Oh (h:ta σ H λx H1=>tb σ H1 λy H2=>r x y H2 Q):NM r ta tb σ H Q:=h
theorem Od (h:ta σ H λx H1=>r x H1 Q):OX r ta σ H Q:=h
theorem Ol {g:Int->Int->V} (h:Q (g i j) H):Kt g (.int i) (.int j) H Q:=⟨i,j,rfl,rfl,h⟩
theorem fe {g:Int->Int->V} (hc:C i j) (h:Q (g i j) H):rI C g (.int i) (.int j) H Q:=⟨i,j,rfl,rfl,hc,h⟩
theorem O9 {g:Int->V} (h:Q (g i) H):rU g (.int i) H Q:=⟨i,rfl,h⟩
theorem My (h:Q (.bl (decide (i=j))) H):rEq (.int i) (.int j) H Q:=⟨rfl,by
 have e:decide (V.int i=V.int j)=decide (i=j):=by simp
 rw[e];exact h⟩
theorem Mq (h:Q (.bl (!decide (i=j))) H):rNe (.int i) (.int j) H Q:=⟨rfl,by
 have e:decide (V.int i=V.int j)=decide (i=j):=by simp
 rw[e];exact h⟩
theorem J8 (h:t σ H λx H'=>∃k,x=.bl k/\QB k H'):Lb t σ H QB:=h
theorem Oe (h:t σ H λx H'=>∃k,x=.bl k/\QB k H'):tB t σ H QB:=h
theorem MB (h:t σ H λc H1=>if c=true then u σ H1 QB else QB false H1):NS t u σ H QB:=h
theorem Og (h:t σ H λc H1=>if c=true then QB true H1 else u σ H1 QB):tOr t u σ H QB:=h
theorem Mo (h:t σ H λc H1=>QB (!c) H1):NO t σ H QB:=h
theorem Kq (h:t σ H λx H1=>∃c,x=.bl c/\if c=true then u σ H1 Q else Q (.bl false) H1):Ll t u σ H Q:=h
theorem Kb (h:t σ H λx H1=>∃c,x=.bl c/\Q (.bl (!c)) H1):Ld t σ H Q:=h
theorem Mv (h:c σ H λb H1=>if b=true then ta σ H1 Q else tb σ H1 Q):tIf c ta tb σ H Q:=h
theorem Mh (h:QB true H):NG σ H QB:=h
theorem Mp (h:QA [] H):DX σ H QA:=h
theorem Km (h:ta σ H λx H1=>tr σ H1 λxs H2=>QA (x :: xs) H2):oT ta tr σ H QA:=h
theorem Ko (h:t σ H λvs H1=>sp vs H1 Q E):HE sp [] E t σ H Q:=by
 have e:(λvs H1=>sp (vs++[]) H1 Q E)=λvs H1=>sp vs H1 Q E:=by funext vs H1;rw[oQ]
 show t σ H λvs H1=>sp (vs++[]) H1 Q E
 rw[e];exact h
theorem Oi (h:t σ H λvs H1=>r vs H1 Q):O6 r t σ H Q:=h
theorem Eb {K:FG9} (hx:kD K H p xs) (e:Ez xs i=some v) (h:Q v H):ME K (.ref p) (.int i) H Q:=⟨p,xs,i,v,rfl,rfl,hx,e,h⟩
theorem cm {K:FG9} (hx:bO K H p xs) (e:Ez xs i=some v) (h:Q v H):MF K (.ref p) (.int i) H Q:=⟨p,xs,i,v,rfl,rfl,hx,e,h⟩
theorem Kk {K:FG9} (hx:bO K H p xs) (e:Ez xs i=some v) (h:Q v H):Ls K (.ref p) (.int i) H Q:=⟨p,xs,i,v,rfl,rfl,hx,e,h⟩
theorem eo (hx:H p=some (.lst xs)) (e:GU xs.length i=some j) (ey:xs.set j v=ys) (h:QH (upd H p (.lst ys))):Lr (.ref p) (.int i) v H QH:=⟨p,xs,i,j,rfl,rfl,hx,e,by rw[ey];exact h⟩
theorem Ki (h:to σ H λo H1=>ti σ H1 λi H2=>t o i v H2 λH3=>QS σ H3):OD to ti t v σ H QS:=h
theorem Ig (h:t v σ H λσ' H'=>u r σ' H' QS):LH t u (v :: r) σ H QS:=⟨v,r,rfl,h⟩
theorem Kj (h:QS σ H):OE [] σ H QS:=⟨rfl,h⟩
theorem Kh {K:FG9} (hx:kD K H a xs) (hl:xs.length=n) (h:t xs σ H QS):M9 K n t (.ref a) σ H QS:=⟨a,xs,rfl,hx,hl,h⟩
theorem Of (h:te σ H λx H1=>tl σ H1 λl H2=>th σ H2 λu H3=>r x l u H3 Q):tSl r te tl th σ H Q:=h
theorem F9 (h:QO none H):EJ σ H QO:=h
theorem Ka (h:t σ H λx H1=>∃i,x=.int i/\QO (some i) H1):Lc t σ H QO:=h
variable {R:It->Hp->Prop} {K:FG9}
theorem Ib (h:tl σ H λx H1=>∃a,x=.ref a/\(∃xs,bO K H1 a xs)/\R (K5 K a) H1):IT K tl σ H R:=h
theorem Kg (h:tl σ H λx H1=>∃a,x=.ref a/\(∃xs,kD K H1 a xs)/\R (Nz K a) H1):OB K tl σ H R:=h
theorem Ia (h:ta σ H λvs H1=>∃j:Int,vs=[.int j]/\-(2^62)<=j/\j < 2^62/\R (DN 0 j.toNat) H1):LC ta σ H R:=h
theorem HZ (h:ta σ H λvs H1=>∃i j:Int,vs=[.int i,.int j]/\(-(2^62)<=i/\i < 2^62/\-(2^62)<=j/\j < 2^62)/\R (DN i (j - i).toNat) H1):LB ta σ H R:=h
theorem Kn {g:TG} (e:GS k cap σ=σ₀) (h:wi σ H λJ H1=>p4 J σ₀ g tf te Q H1):CJ wi k cap g tf te σ H Q:=by
 unfold CJ;rw[e];exact h
theorem J7 {g:TG} {NY:V->Hp->Prop} (h:g x σ H λσ2 H2=>tf σ2 H2 λb H3=>if b=true then te σ2 H3 NY else NN H3):oS σ g tf te x H NY NN:=h
theorem Oj (h:to σ H λx H1=>O5 K T x H1/\t σ H1 λxs H2=>r x xs H2 Q):O7 K T r to t σ H Q:=h
def OO (Q:VK) (xs:List V) (H:Hp):Prop:=xs.length<=sizeLine/\∀p,H p=none->Q (.ref p) (upd H p (.tup xs))
def OP (Q:VK) (xs:List V) (H:Hp):Prop:=xs.length<=sizeLine/\∀p,H p=none->Q (.ref p) (upd H p (.lst xs))
theorem Mj (h:t σ H (OO Q)):NH t σ H Q:=h
theorem Ms (h:t σ H (OP Q)):NP t σ H Q:=h
theorem ib (h:Nat.ble n 1000=true):n<=sizeLine:=aN (bc (Nat.le_of_ble_eq_true h))
theorem b6 {xs:List V} (h:∀p H',aF H H'->H' p=some (.tup xs)->Q (.ref p) H') (hl:Nat.ble xs.length 1000=true:=by rfl):OO Q xs H :=
 ⟨ib hl,λp hp=>h p _ (aF.new hp) aH⟩
theorem dB {xs:List V} (h:∀p H',aF H H'->H p=none->H' p=some (.lst xs)->Q (.ref p) H') (hl:Nat.ble xs.length 1000=true:=by rfl):OP Q xs H :=
 ⟨ib hl,λp hp=>h p _ (aF.new hp) hp aH⟩
theorem Oz {A B:Prop} (h:B):if (!true)=true then A else B:=IM h
theorem OA {A B:Prop} (h:A):if (!false)=true then A else B:=Oy h
def WB (tb:TS) (D:Ends) (Pv:St->Hp->Prop) (μ:St->Hp->Nat) (n:Nat) (σ:St) (H:Hp):Prop:=∃N:St->Hp->Prop,(∀σ' H',N σ' H'->∃m',m' < n/\(m'=μ σ' H'/\Pv σ' H'))/\tb { D with nx:=N,ct:=N,bk:=D.nx } σ H
theorem Lq (h:tb { D with nx:=λσ' H'=>Pv σ' H'/\μ σ' H' < n,ct:=λσ' H'=>Pv σ' H'/\μ σ' H' < n,bk:=D.nx } σ H):WB tb D Pv μ n σ H :=
 ⟨_,λσ' H' ⟨p,l⟩=>⟨_,l,rfl,p⟩,h⟩
theorem A2 (Pv:St->Hp->Prop) (μ:St->Hp->Nat) (h0:Pv σ H) (hs:∀σ H,Pv σ H->c σ H λb H1=>if b=true then WB tb D Pv μ (μ σ H) σ H1 else D.nx σ H1):HD c tb D σ H:=by
 refine ⟨λm σ H=>m=μ σ H/\Pv σ H,⟨_,rfl,h0⟩,?_⟩;rintro m σ H ⟨rfl,p⟩;exact hs σ H p
end
def hZ (H:Hp) (p:Addr):Prop:=∃(q:Addr) (a b c:Int) (cs:List Int),H p=some (.lst [.int a,.int b,.int c,.ref q])/\H q=some (.lst (cs.map V.int))/\0<=a/\0<=c/\c<=(cs.length:Int)/\∀x∈cs,(0:Int)<=x
theorem GQ {H:Hp} {cs:List Int} (hp:H p=some (.lst [.int a,.int b,.int c,.ref q])) (hq:H q=some (.lst (cs.map V.int))):q≠p:=λe=>by
 rw[e,hp] at hq;have h:=HO.lst.inj (cf hq);cases cs with
 | nil=>cases h
 | cons x1 cs=>cases cs with
  | nil=>cases h
  | cons x2 cs=>cases cs with
   | nil=>cases h
   | cons x3 cs=>cases cs with
    | nil=>cases h
    | cons x4 cs=>simp at h
theorem hZ.same (h:hZ H p) (e:aF H H'):hZ H' p:=by obtain ⟨q,a,b,c,cs,h1,h2,r⟩:=h;exact ⟨q,a,b,c,cs,e _ _ h1,e _ _ h2,r⟩
theorem cU.tup {H H':Hp} {p r:Addr} {xs:List V} (u:cU p H H') (B:hZ H p) (h:H r=some (.tup xs)):H' r=some (.tup xs):=by
 obtain ⟨q,a,b,c,cs,h1,_⟩:=B;exact u.1 r _ h λe=>by rw[e,h1] at h;cases h
theorem cU.other (u:cU p H H') (n:r≠p) (h:H r=some o):H' r=some o:=u.1 r _ h n
theorem hZ.inner (h:hZ H p):∃q,Inner H p q/\∃xs,H q=some (.lst xs):=by obtain ⟨q,a,b,c,cs,h1,h2,_⟩:=h;exact ⟨q,⟨a,b,c,h1⟩,_,h2⟩
theorem hZ.upd (h:hZ H p) (hi:Inner H p q) (n1:r≠p) (n2:r≠q):hZ (L2.upd H r o) p:=by
 obtain ⟨q',a,b,c,cs,h1,h2,z⟩:=h;have e:q'=q:=Inner.inj ⟨a,b,c,h1⟩ hi;subst e;exact ⟨q',a,b,c,cs,by rw[br n1.symm];exact h1,by rw[br n2.symm];exact h2,z⟩
theorem Inner.upd (hi:Inner H p q) (n1:r≠p):Inner (L2.upd H r o) p q:=by obtain ⟨a,b,c,h⟩:=hi;exact ⟨a,b,c,by rw[br n1.symm];exact h⟩
def JU:Sp:=λvs H Q _=>∃p n,vs=[.ref p,.int n]/\hZ H p/\0 < n/\n < 2^64/\∀v H',0<=v->v < n->hZ H' p->cU p H H'->Q (.int v) H'
inductive HN (K:FG9) (vs:List V) (H:Hp) (Q:VK) (E9:XK):Prop
 | mk (a:Addr) (ns:List Int):vs=[.ref a]->bO K H a (ns.map V.int)->ns.length<=63->(∀p H',H p=none->hZ H' p->aF H H'->Q (.ref p) H')->HN K vs H Q E9
inductive xR (K:FG9) (vs:List V) (H:Hp) (Q:VK) (E9:XK):Prop
 | mk (a:Addr) (ns:List Int):vs=[.ref a]->bO K H a (ns.map V.int)->ns.length<=63->(∀H',Q (.bl true) H')->xR K vs H Q E9
def Me:Sp:=λvs H Q _=>∃t b,vs=[.int t,.int b]/\0 < b/\Sz 8999 b/\∀r H',aF H H'->H' r=some (.tup [.int (lo t b),.int (hi t b)])->Q (.ref r) H'
def NX:Sp:=λvs H Q _=>∃a b,vs=[.int a,.int b]/\Q (.int (g a b)) H
def F3:Sp:=λvs H Q _=>∃t b,vs=[.int t,.int b]/\b≠0/\Sz 8999 b/\∀r H',aF H H'->H' r=some (.tup [.int (lo (if b < 0 then -t else t) (if b < 0 then -b else b)),.int (hi (if b < 0 then -t else t) (if b < 0 then -b else b))])->Q (.ref r) H'
def LI (a b c d:Int):Int:=a*d+c*b
def Jh (a b c d:Int):Int:=a*d - c*b
def Jg (a _b c _d:Int):Int:=a*c
def E3 (K:FG9) (f:Int->Int->Int->Int->Int):Sp:=λvs H Q _=>∃p q a b c d,vs=[.ref p,.ref q]/\kD K H p [.int a,.int b]/\kD K H q [.int c,.int d]/\0 < b/\0 < d/\Sz 4000 a/\Sz 4000 b/\Sz 4000 c/\Sz 4000 d /\
 ∀r H',aF H H'->H' r=some (.tup [.int (lo (f a b c d) (b*d)),.int (hi (f a b c d) (b*d))])->Q (.ref r) H'
def JW (K:FG9):Sp:=λvs H Q _=>∃p q a b c d,vs=[.ref p,.ref q]/\kD K H p [.int a,.int b]/\kD K H q [.int c,.int d]/\0 < b/\0 < d/\c≠0/\Sz 4000 a/\Sz 4000 b/\Sz 4000 c/\Sz 4000 d /\
 ∀r H',aF H H'->H' r=some (.tup [.int (lo (if c < 0 then 0 - a*d else a*d) (if c < 0 then 0 - b*c else b*c)),.int (hi (if c < 0 then 0 - a*d else a*d) (if c < 0 then 0 - b*c else b*c))])->Q (.ref r) H'
theorem bX {α β:Type} {F:α->β->Prop}:∀{l1 l1':List α} {l2 l2':List β},Paired F l1 l2->Paired F l1' l2'->Paired F (l1++l1') (l2++l2')
 | _,_,_,_,.nil,h=>h
 | _,_,_,_,.cons r t,h=>.cons r (bX t h)
theorem cX {h:Heap} (ha:h.get? a=some o) (hb:h.get? b=some u) (hc:o.cls≠u.cls):a≠b:=λe=>by
 subst e;rw[ha] at hb;cases hb;exact hc rfl
theorem ka (h:a≠b):Value.type a≠Value.type b:=λe=>h (by injection e)
theorem zU {z TI TO i1 i2 l1 l2:Addr} (hz:IsZip h z TI TO f0) (hTI:IsPair h TI (.ref i1) (.ref i2)) (hTO:IsPair h TO a b)
  (h1:h.IsListIter i1 l1 k1) (h2:h.IsListIter i2 l2 k2) (hl1:h.IsList l1 xs) (hl2:h.IsList l2 ys) (hT:TI≠TO) (hi:i1≠i2):ZipApart z TI TO i1 i2 l1 l2:=by
 obtain ⟨o1,g1,c1,_⟩:=h1;obtain ⟨o2,g2,c2,_⟩:=h2;obtain ⟨p1,q1,d1,_⟩:=hl1;obtain ⟨p2,q2,d2,_⟩:=hl2;refine ⟨cX hTI hz ?_,cX hTO hz ?_,cX g1 hz ?_,cX g2 hz ?_,hT,cX hTI g1 ?_,cX hTI g2 ?_,cX hTO g1 ?_,cX hTO g2 ?_,hi,cX q1 hz ?_,cX q1 hTO ?_,cX q1 g1 ?_,cX q1 g2 ?_,cX q2 hz ?_,cX q2 hTO ?_,cX q2 g1 ?_,cX q2 g2 ?_⟩
 all_goals first
  | (rw[d1];first | (rw[c1];exact ka (by decide)) | (rw[c2];exact ka (by decide)) | exact ka (by decide))
  | (rw[d2];first | (rw[c1];exact ka (by decide)) | (rw[c2];exact ka (by decide)) | exact ka (by decide))
  | (rw[c1];exact ka (by decide))
  | (rw[c2];exact ka (by decide))
  | exact ka (by decide)
def Nl (K : FG9) (l1 l2 : Addr) : It :=
  ⟨λi H => ∃ xs ys x y, bO K H l1 xs /\ bO K H l2 ys /\ xs[i]? = some x /\ ys[i]? = some y,
   λi H v H' => ∃ p x y, v = .ref p /\ H p = none /\ H' = upd H p (.tup [x, y]) /\ (∀ xs, bO K H l1 xs → xs[i]? = some x) /\ ∀ ys, bO K H l2 ys → ys[i]? = some y,
   λi H => ∃ xs ys, bO K H l1 xs /\ bO K H l2 ys /\ (xs.length ≤ i \/ ys.length ≤ i)⟩
def tnZ (z TI TO i1 i2 l1 l2:Addr) (i:Nat) (h:Heap):Prop:=IsZip h z TI TO .none/\IsPair h TI (.ref i1) (.ref i2)/\(∃a b,IsPair h TO a b)/\h.IsListIter i1 l1 i/\h.IsListIter i2 l2 i
theorem Hw {P:Program} {w:World} {K:FG9} {elts:List Expr} {kk:Nat} {tpos:Pos} (z TI TO i1 i2 l1 l2:Addr) (hT:TI≠TO) (hi:i1≠i2):Turn P w K (.Tuple elts kk tpos) (Nl K l1 l2) [z,TI,TO,i1,i2] z (tnZ z TI TO i1 i2 l1 l2) where
 mem:=by simp
 obj:=λi h st b hb=>by
  obtain ⟨hz,hTI,⟨a,c,hTO⟩,⟨o1,g1,c1,d1⟩,⟨o2,g2,c2,d2⟩⟩:=st;simp only[aE,aV,or_false] at hb;rcases hb with rfl | rfl | rfl | rfl | rfl
  ·exact ⟨_,hz,λv q=>nomatch q⟩
  ·exact ⟨_,hTI,λv q=>nomatch q⟩
  ·exact ⟨_,hTO,λv q=>nomatch q⟩
  ·exact ⟨o1,g1,λv q=>by rw[d1] at q;cases q⟩
  ·exact ⟨o2,g2,λv q=>by rw[d2] at q;cases q⟩
 keep:=λi h h' st k=>by
  obtain ⟨hz,hTI,⟨a,c,hTO⟩,h1,h2⟩:=st;exact ⟨k z (by simp) _ hz,k TI (by simp) _ hTI,⟨a,c,k TO (by simp) _ hTO⟩,h1.at λo e=>k i1 (by simp) o e,h2.at λo e=>k i2 (by simp) o e⟩
 item:=by
  intro X hP hw hK hc i pins s σ H E I hf st hg;subst hP hw hK;obtain ⟨hz,hTI,⟨a,c,hTO⟩,h1,h2⟩:=st;obtain ⟨xs,ys,x,y,qx,qy,ex,ey⟩:=hg;obtain ⟨us,rx,px,_⟩:=I.list qx;obtain ⟨ws,ry,py,_⟩:=I.list qy;obtain ⟨u,eu,ru⟩:=rx.get ex;obtain ⟨v,ev,rv⟩:=ry.get ey;have D:=zU hz hTI hTO h1 h2 px.isList py.isList hT hi;refine wpAny_pyNext_zip_item D hz hTI hTO h1 h2 px.isList py.isList (x:=u) (y:=v) (by simpa using eu) (by simpa using ev) λh' a1 a2 a3 a4 a5 a6 hk=>?_
  refine ⟨_,rfl,wpAny_letOwnedTupleGo_zip a1 λh'' hz'' hs=>?_⟩;have hT0:H s.heap.objs.size=none:=I.hok.fresh (ak _);have zne:s.heap.objs.size≠z:=FU (Heap.lt_size hz)
  have up:∀b o,b∉[z,TO,i1,i2]->s.heap.get? b=some o->h''.get? b=some o:=λb o hb e=>by
   simp only[aE,aV,or_false,not_or] at hb;exact (hs.2 b hb.1).trans (hk b o hb.1 hb.2.1 hb.2.2.1 hb.2.2.2 e)
  have fx:∀b∈[z,TO,i1,i2],jg X pins H b:=λb hb=>hf b (by
   simp only[aE,aV,or_false] at hb ⊢;rcases hb with rfl | rfl | rfl | rfl <;> simp)
  have nx:∀b o,H b=some o->b∉[z,TO,i1,i2]:=λb o e hb=>by
   have:=(fx b hb).1;rw[this] at e;cases e
  have nT:∀{b:Addr} {o:HO},H b=some o->b≠s.heap.objs.size:=λe q=>by rw[q,hT0] at e;cases e
  have tup:h''.get? s.heap.objs.size=some { cls:=.type "tuple",data:=.seq #[u,v] }:=(hs.2 _ zne).trans a5
  have I2:Inv X pins σ (upd H s.heap.objs.size (.tup [x,y])) { s with heap:=h'' }:=by
   refine I.step (g':=s.gens) (d':=s.drawn) (t':=s.toks) (ch:=[z,TO,i1,i2]) (λb hb=>?_) (λb o _ _ hb e _=>up b o hb e) (λb o _ _ hb e _=>⟨o.slots,up b o hb e⟩) (λb o hb e n=>?_)
    (λb o hb e=>⟨o,up b o hb e⟩) (λb q e=>by rw[br (nT e)];exact e) (λb o q e=>by rw[br (nT e)];exact e) (λb q e=>⟨#[],by rw[br (nT e),e];simp⟩) (λm hm=>?_) (λb o e=>?_) I.bare
   ·obtain ⟨_,f1,_,f3,f4,f5⟩:=fx b hb;exact ⟨f3,f1,f4,f5⟩
   ·rw[br (cG (Heap.lt_size e))];exact n
   ·obtain ⟨o,es,ep,ho,r⟩:=hm;exact ⟨o,es,ep,up _ o (λz=>(fx _ z).2.1 rfl) ho,r⟩
   ·by_cases hb:b=s.heap.objs.size
    ·subst hb;rw[aH] at e;cases e;exact ⟨ib rfl,[u,v],.cons ru (.cons rv .nil),⟨_,tup,rfl,_,rfl⟩⟩
    ·rw[br hb] at e;refine (I.hok b o e).stay (λc v' hc q=>up c v' ?_ q) (λc q=>by rw[br (nT q)];exact q) λc xs q=>by rw[br (nT q)];exact q
     rcases hc with rfl | hc
     ·exact nx _ _ e
     ·exact nx _ _ hc
  refine ⟨.ref s.heap.objs.size,_,I2,rfl,⟨_,x,y,rfl,hT0,rfl,λxs' q=>by rw[I.list_inj q qx];exact ex,λys' q=>by rw[I.list_inj q qy];exact ey⟩,?_,λb hb=>?_⟩
  ·refine ⟨hz'',(hs.2 _ D.TIz).trans (hk _ _ D.TIz D.TITO D.TIi1 D.TIi2 hTI),⟨_,_,(hs.2 _ D.TOz).trans a2⟩,a3.at λo e=>(hs.2 _ D.i1z).trans e,a4.at λo e=>(hs.2 _ D.i2z).trans e⟩
  ·obtain ⟨o,e,_⟩:∃o,s.heap.get? b=some o/\True:=by
    obtain ⟨o1,g1,_⟩:=h1;obtain ⟨o2,g2,_⟩:=h2;simp only[aE,aV,or_false] at hb;rcases hb with rfl | rfl | rfl | rfl | rfl
    ·exact ⟨_,hz,trivial⟩
    ·exact ⟨_,hTI,trivial⟩
    ·exact ⟨_,hTO,trivial⟩
    ·exact ⟨_,g1,trivial⟩
    ·exact ⟨_,g2,trivial⟩
   rw[br (cG (Heap.lt_size e))];exact (hf b hb).1
 done:=by
  intro X hP hw hK hc i pins s σ H E I hf st hg;subst hP hw hK;obtain ⟨hz,hTI,⟨a,c,hTO⟩,h1,h2⟩:=st;obtain ⟨xs,ys,qx,qy,hend⟩:=hg;obtain ⟨us,rx,px,_⟩:=I.list qx;obtain ⟨ws,ry,py,_⟩:=I.list qy;have lx:=rx.length;have ly:=ry.length;have D:=zU hz hTI hTO h1 h2 px.isList py.isList hT hi
  refine wpAny_pyNext_zip_end (I.ok.hd hc) D hz hTI hTO h1 h2 px.isList py.isList (by
   rcases hend with q | q
   ·exact .inl (by simp;lia)
   ·exact .inr (by simp;lia)) λh' hk=>⟨rfl,?_⟩
  have up:∀b o,b∉[z,TO,i1,i2]->s.heap.get? b=some o->h'.get? b=some o:=λb o hb e=>by
   simp only[aE,aV,or_false,not_or] at hb;exact hk b o hb.1 hb.2.1 hb.2.2.1 hb.2.2.2 e
  have fx:∀b∈[z,TO,i1,i2],jg X pins H b:=λb hb=>hf b (by
   simp only[aE,aV,or_false] at hb ⊢;rcases hb with rfl | rfl | rfl | rfl <;> simp)
  have nx:∀b o,H b=some o->b∉[z,TO,i1,i2]:=λb o e hb=>by
   have:=(fx b hb).1;rw[this] at e;cases e
  refine I.step (g':=s.gens) (d':=s.drawn) (t':=s.toks) (ch:=[z,TO,i1,i2]) (λb hb=>?_) (λb o _ _ hb e _=>up b o hb e) (λb o _ _ hb e _=>⟨o.slots,up b o hb e⟩) (λb o hb e n=>n)
   (λb o hb e=>⟨o,up b o hb e⟩) (λb q e=>e) (λb o q e=>e) (λb q e=>⟨#[],by rw[e];simp⟩) (λm hm=>?_) (λb o e=>?_) I.bare
  ·obtain ⟨_,f1,_,f3,f4,f5⟩:=fx b hb;exact ⟨f3,f1,f4,f5⟩
  ·obtain ⟨o,es,ep,ho,r⟩:=hm;exact ⟨o,es,ep,up _ o (λz=>(fx _ z).2.1 rfl) ho,r⟩
  ·refine (I.hok b o e).stay (λc v' hc q=>up c v' ?_ q) (λc q=>q) λc xs q=>q
   rcases hc with rfl | hc
   ·exact nx _ _ e
   ·exact nx _ _ hc
 self:=λ_ _ _ _ _ st h=>wpAny_pyIter_zip st.1 h
section
variable {X:Cx}
def M5 (K:FG9) (ta:TA):TI:=λσ H R=>ta σ H λvs H1=>∃l1 l2,vs=[.ref l1,.ref l2]/\(∃xs,bO K H1 l1 xs)/\(∃ys,bO K H1 l2 ys)/\R (Nl K l1 l2) H1
theorem xu {a b:Expr} {ta:TA} {p pos tpos:Pos} {elts:List Expr} {kk:Nat} (hg:Gl X "zip") (hm:X.mg "zip"=none) (ha:PA X [a,b] ta) (hs:starEach [a,b] X.env=[(false,eval a X.env),(false,eval b X.env)]:=by rfl) (hs2:starEach [b] X.env=[(false,eval b X.env)]:=by rfl) :
  PI X (.Tuple elts kk tpos) (.Call (.Name "zip" p) [a,b] [] pos) (M5 X.K ta):=by
 intro pins s σ H R I h;refine Call_ (jc I hg hm boot_zip (PyProof.Rows.callWith_type1 (fz (ha pos pins s σ H _ I h) λus s1 ⟨vs,H1,I1,r1,q1⟩=>?_) (by rw[hs,hs2]) (by rw[hs2];rfl)));obtain ⟨l1,l2,e,⟨xs,qx⟩,⟨ys,qy⟩,q⟩:=q1;subst e;obtain ⟨u,v,rfl,ru,rv⟩:=vals2 r1;cases ru;cases rv;obtain ⟨us,rx,px,_⟩:=I1.list qx;obtain ⟨ws,ry,py,_⟩:=I1.list qy;refine call_zip_2 px.isList py.isList λh' a1 a2 a3 a4 a5 a6 hk=>wpAny_pyIter_zip a1 ?_
 have I2:Inv X pins σ H1 { s1 with heap:=h' }:=I1.kept (t':=s1.toks) hk;refine ⟨_,[s1.heap.objs.size+4,s1.heap.objs.size+2,s1.heap.objs.size+3,s1.heap.objs.size,s1.heap.objs.size+1],_,_,H1,rfl,I2,Hw (s1.heap.objs.size+4) (s1.heap.objs.size+2) (s1.heap.objs.size+3) s1.heap.objs.size (s1.heap.objs.size+1) l1 l2 (cG (d6 _)) (cG (d6 _)),⟨a1,a2,⟨_,_,a3⟩,a4,a5⟩,λb hb=>?_,q⟩
 have hb':s1.heap.objs.size<=b:=by
  simp only[aE,aV,or_false] at hb;rcases hb with rfl | rfl | rfl | rfl | rfl <;> first | exact xf _ _ | exact ak _
 exact I1.fpOk hb' (I1.hok.fresh hb')
theorem y8 (hc:X.calm=true):p5 X (.builtin "all") (λxs H Q=>∃(p:Addr) (bs:List Bool),xs=[.ref p]/\bO X.K H p (bs.map V.bl)/\Q (.bl (bs.all id)) H):=by
 intro pins s σ H xs us Q I r h;obtain ⟨p,bs,rfl,hp,q⟩:=h;obtain ⟨u,rfl,ru⟩:=vals1 r;cases ru;obtain ⟨vs,rv,pl,hz⟩:=I.list hp
 have hb:PyProof.Rows.LSm.BoolsAre vs bs:=by
  clear q hp pl hz
  induction bs generalizing vs with
  | nil=>cases rv;exact .nil
  | cons b bs ih =>
   rw[fJ] at rv;cases rv with
   | cons r1 r2=>cases r1;exact .cons b (ih _ r2)
 have hlt:p < s.heap.objs.size:=by obtain ⟨_,e,_⟩:=pl.isList;exact Heap.lt_size e
 refine call_all_walk (wpAny_pyIter_list pl.isList ?_)
 refine ⟨s.heap.objs.size,[s.heap.objs.size,p],[s.heap.objs.size],vs.toArray.size,_,_,λi=>(bs[i]?).getD true,rfl,Walks.list (A:=X.A.in1) (I.ok.hd hc) _ p (cG hlt) vs.toArray,
  ⟨⟨_,Heap.get?_push_size _ rfl,rfl,rfl⟩,pl.isList.push _⟩,λi v s' Q' E' hP hQ=>?_,λh' tk hk=>?_⟩
 ·obtain ⟨b,e,rfl⟩:=hb.get i v (by simpa using hP);simp only[e,Option.getD_some] at hQ;exact wpAny_truthy_bool hQ
 ·have e:((List.range vs.toArray.size).all λi=>(bs[i]?).getD true)=bs.all id:=by
   rw[aL,hb.length];exact PyProof.Rows.LSm.range_all bs
  rw[e];exact ⟨.bl _,H,I.kept (t':=tk) (PyProof.Rows.LSm.kept_iter hk),rfl,q⟩
theorem Js (hc:X.calm=true):p5 X (.builtin "sum") (λxs H Q=>∃(p:Addr) (ns:List Int),xs=[.ref p]/\bO X.K H p (ns.map V.int)/\Q (.int ns.sum) H):=by
 intro pins s σ H xs us Q I r h;obtain ⟨p,ns,rfl,hp,q⟩:=h;obtain ⟨u,rfl,ru⟩:=vals1 r;cases ru;obtain ⟨vs,rv,pl,_⟩:=I.list hp;have hi:IntsAre vs ns:=intsAre_of rv;obtain ⟨xs,hx⟩:=hi.allInts.items;have hl':s.heap.IsList p (intItems xs):=hx ▸ pl.isList;refine sum_intListG (I.ok.hd hc) hl' λh' tk t' hk=>?_
 have e1:ns=xs.toList.map (·.1):=by
  rw[<- nums_intItems,<- hx];exact (show numsOf vs.toArray.toList=ns from hi.numsOf).symm
 have e2:preSum (numAt xs) xs.size=ns.sum:=by
  rw[preSum_eq,aG (by simp),e1]
 rw[e2];exact ⟨.int _,H,I.kept (t':=tk) hk,⟨_,rfl⟩,q⟩
end
section
variable {K:FG9} {l1 l2:Addr} {xs ws:List V} {g:TG} {tf:TT} {te:TE} {Q:VK} {σ₀:St} {H:Hp}
theorem y4 (Pv:Nat->List V->Hp->Prop) (hz:xs.length<=sizeLine) (hw:ws.length=xs.length) (h0:Pv 0 [] H) (hl:∀i ys H,i<=xs.length->Pv i ys H->bO K H l1 xs/\bO K H l2 ws)
  (hs:∀i x y ys H p,xs[i]?=some x->ws[i]?=some y->ys.length<=i->Pv i ys H->H p=none->oS σ₀ g tf te (.ref p) (upd H p (.tup [x,y])) (λy H'=>Pv (i+1) (ys++[y]) H') (λH'=>Pv (i+1) ys H'))
  (hd:∀ys H,ys.length<=xs.length->Pv xs.length ys H->∀p,H p=none->Q (.ref p) (upd H p (.lst ys))):p4 (Nl K l1 l2) σ₀ g tf te Q H:=by
 refine ⟨λi m ys H=>m=xs.length - i/\i<=xs.length/\ys.length<=i/\Pv i ys H,⟨xs.length,by simp,bu _,bu _,h0⟩,?_⟩;rintro i m ys H ⟨rfl,hi,hy,p⟩;obtain ⟨q1,q2⟩:=hl i ys H hi p;by_cases hlt:i < xs.length
 ·refine .inr ⟨⟨xs,ws,xs[i],ws[i]'(by lia),q1,q2,by simp [hlt],by simp⟩,by lia,λy H'=>Pv (i+1) (ys++[y]) H',λH'=>Pv (i+1) ys H',λy H' p'=>⟨xs.length - (i+1),by lia,rfl,hlt,by rw[av,bf];lia,p'⟩,λH' p'=>⟨xs.length - (i+1),by lia,rfl,hlt,by lia,p'⟩,λx H' y=>?_⟩;obtain ⟨r,x',y',rfl,hr,rfl,e1,e2⟩:=y;exact hs i x' y' ys _ r (e1 xs q1) (e2 ws q2) hy p hr
 ·have e:i=xs.length:=by lia
  subst e;exact .inl ⟨⟨xs,ws,q1,q2,.inl (ak _)⟩,by lia,hd ys H hy p⟩
theorem KJ {tb:TS} {D:Ends} (Pv:Nat->St->Hp->Prop) (hw:ws.length=xs.length) (h0:Pv 0 σ H) (hl:∀i σ H,i<=xs.length->Pv i σ H->bO K H l1 xs/\bO K H l2 ws)
  (hs:∀i x y σ H p,xs[i]?=some x->ws[i]?=some y->Pv i σ H->H p=none->g (.ref p) σ (upd H p (.tup [x,y])) λσ2 H2=>tb { D with nx:=Pv (i+1),ct:=Pv (i+1),bk:=D.nx } σ2 H2) (hd:∀σ H,Pv xs.length σ H->D.nx σ H) :
  ∃W:Nat->Nat->St->Hp->Prop,(∃m,W 0 m σ H)/\∀i m σ H,W i m σ H →
   ((Nl K l1 l2).stop i H/\D.nx σ H)\/((Nl K l1 l2).go i H/\∃N:St->Hp->Prop,(∀σ' H',N σ' H'->∃m',m' < m/\W (i+1) m' σ' H')/\∀x H',(Nl K l1 l2).yld i H x H'->g x σ H' λσ2 H2=>tb { D with nx:=N,ct:=N,bk:=D.nx } σ2 H2):=by
 refine ⟨λi m σ H=>m=xs.length - i/\i<=xs.length/\Pv i σ H,⟨xs.length,by simp,bu _,h0⟩,?_⟩;rintro i m σ H ⟨rfl,hi,p⟩;obtain ⟨q1,q2⟩:=hl i σ H hi p;by_cases hlt:i < xs.length
 ·refine .inr ⟨⟨xs,ws,xs[i],ws[i]'(by lia),q1,q2,by simp [hlt],by simp⟩,Pv (i+1),λσ' H' p'=>⟨xs.length - (i+1),by lia,rfl,hlt,p'⟩,λx H' y=>?_⟩;obtain ⟨r,x',y',rfl,hr,rfl,e1,e2⟩:=y;exact hs i x' y' σ _ r (e1 xs q1) (e2 ws q2) p hr
 ·have e:i=xs.length:=by lia
  subst e;exact .inl ⟨⟨xs,ws,q1,q2,.inl (ak _)⟩,hd σ H p⟩
end
section
variable {X:Cx}
theorem tw (K:FG9) (n:Nat) {es:List Expr} {k:Nat} {pos:Pos} {t:Jy} (h:OM X es t) (hK:X.K=K:=by rfl) (hc:X.calm=true:=by rfl)
  (hn:(assignEach es X.env).length=n:=by rfl) (hst:(assignEach es X.env).findIdx? (·.1)=none:=by rfl):PG X (.Tuple es k pos) (M9 K n t):=by subst hK;exact yn hc h hn hst
theorem xy (K:FG9) (hK:X.K=K):OQ X (ME K):=by subst hK;exact bU
theorem fu (K:FG9) (hK:X.K=K):OQ X (MF K):=by subst hK;exact bS
theorem BG (K:FG9) (hK:X.K=K) (hu:X.A.units+50 < cLine):vK X (compareOp .NotEq) (Oo K):=by subst hK;exact vp hu
theorem tu (K:FG9) {tg l:Expr} {tl:TE} (hl:PE X l tl) (hK:X.K=K:=by rfl):PI X tg l (IT K tl):=by subst hK;exact ck hl
theorem xW (K:FG9) (hK:X.K=K):Pq X (MC K):=by subst hK;exact Bg
end
theorem dO {X:Cx} {e e':Expr} {es:List Expr} {te:TE} {t:TA} (h:e=e') (ha:PE X e' te) (hr:PA X es t) (hs:∀l,starEach (e' :: l) X.env=(false,eval e' X.env) :: starEach l X.env:=by intro _;rfl):PA X (e :: es) (oT te t):=by subst h;exact ae ha hr (hs _)
section
variable {σ:St} {H:Hp} {D:Ends} {Q:VK}
theorem iV (hl:H l=some (.lst xs)) (hz:xs.length < sizeLine) (h:Q .non (upd H l (.lst (xs++[y])))):E7 (.ref l) [y] H Q:=⟨l,xs,y,rfl,rfl,hl,hz,h⟩
theorem Kf {K:FG9} (h:ta σ H λvs H1=>∃l1 l2,vs=[.ref l1,.ref l2]/\(∃xs,bO K H1 l1 xs)/\(∃ys,bO K H1 l2 ys)/\R (Nl K l1 l2) H1):M5 K ta σ H R:=h
theorem jK (h1:H l=some (.lst xs)) (h2:H b=some (.lst zs)) (hz:xs.length+zs.length<=sizeLine) (h:∀p H',aF H H'->H p=none->H' p=some (.lst (xs++zs))->Q (.ref p) H'):Oq (.ref l) (.ref b) H Q :=
 ⟨l,b,xs,zs,rfl,rfl,h1,h2,hz,λp hp=>h p _ (aF.new hp) hp aH⟩
theorem Bx {K:FG9} {lo hi:Option Int} (h1:bO K H a xs) (h:∀p H',aF H H'->H p=none->H' p=some (.lst (qj xs lo hi))->Q (.ref p) H'):MC K (.ref a) lo hi H Q :=
 ⟨a,xs,rfl,h1,λp hp=>h p _ (aF.new hp) hp aH⟩
theorem kC {xs:List α} {i:Int} (h0:0<=i) (h1:i < xs.length):∃v,Ez xs i=some v/\v∈xs/\xs[i.toNat]?=some v:=by
 have hj:i.toNat < xs.length:=by lia
 refine ⟨xs[i.toNat],?_,aO hj,by simp [hj]⟩;have:=dS (xs:=xs) (j:=i.toNat) (v:=xs[i.toNat]) (by simp [hj]);rwa [Int.toNat_of_nonneg h0] at this
end
theorem cP {α β:Type} {F:α->β->Prop}:∀{l1:List α} {l2:List β} {y:β},Paired F l1 l2->y∈l2->∃x∈l1,F x y
 | _,_,_,.nil,h=>nomatch h
 | _,_,_,.cons r t,h=>by
  rcases aE.mp h with rfl | h
  ·exact ⟨_,cp,r⟩
  ·obtain ⟨x,hx,q⟩:=cP t h;exact ⟨x,bN _ hx,q⟩
theorem cJ {F:α->β->Prop} {l1:List α} {l2:List β} {i:Nat} {y:β} (h:Paired F l1 l2) (e:l2[i]?=some y):∃x,l1[i]?=some x/\F x y:=by
 have hl:=h.length;have hi:i < l2.length:=(aB.mp e).1;refine ⟨l1[i]'(by lia),by simp,?_⟩;have:=iX h (i:=i) (by lia) hi;have e2:l2[i]=y:=(aB.mp e).2;rwa [e2] at this
def uF (n:Int×Int):Prop:=0 < n.2/\Int.gcd n.1 n.2=1/\Sz 8000 n.1/\Sz 8000 n.2
theorem take_snoc {α:Type} {l:List α} {v:α} (h:l[i]?=some v):l.take (i+1)=l.take i++[v]:=by rw[List.take_add_one,h];rfl
theorem aF.after (s:aF H H') (h:H r=Option.none):aF H (upd H' r o):=λb u e=>by rw[br (eO e h)];exact s b u e
theorem cU.after (s:cU b H H') (h:H r=Option.none):cU b H (upd H' r o):=⟨λc u e n=>by rw[br (eO e h)];exact s.1 c u e n,λq hi=>(s.2 q hi).upd λz=>by obtain ⟨_,_,_,e⟩:=hi;rw[<- z,h] at e;cases e⟩
theorem cU.same (s:cU b H H') (e:aF H' H''):cU b H H'':=s.trans e.upto
theorem Co {α:Type} {Pr:α->Prop} {l:List α} {a:α} (h:∀n∈l,Pr n) (ha:Pr a):∀n∈l++[a],Pr n:=λn hn=>by
 rcases au.mp hn with hn | hn
 ·exact h n hn
 ·have e:n=a:=by simpa using hn
  rw[e];exact ha
abbrev zu (h:Heap) (z TI TO:Addr) (f0 f1:Value):Prop:=h.get? z=some { cls:=.type "zip",dict:=none,data:=.fields #[f0,f1,.bool false,.ref TI,.ref TO],slots:=#[] }
section
variable {prog:Program} {w:World} {A:Around} {E:Value->Shared->Prop} {s:Shared}
theorem EA (e:s.heap.get? a=some o) (h:Q (some o) s):wpAny (model prog w) A (loadIfAlive a) Q E s:=by
 intro Γ p hp;show Sem.wp _ _ (.loadIfAlive a .pure) _ _ _ _
 simp only[Sem.wp_loadIfAlive,e];exact wpAny_pure h Γ p hp
theorem yt {z TI TO T:Addr} (zr:zu s.heap z TI TO (rawInt T) (.bool b1)) (al:s.heap.get? T=some o)
  (h:∀h',zu h' z TI TO (rawInt T) (.bool true)->Heap.SameBut z s.heap h'->Q false { s with heap:=h' }):wpAny (model prog w) A (Builtin.SmallTypes.ownedTupleIsFree (.ref z)) Q E s:=by
 unfold Builtin.SmallTypes.ownedTupleIsFree;refine wpAny_bind (wpAny_field zr rfl (x:=rawInt T) rfl ?_);refine wpAny_bind (EA (a:=T) al ?_);refine wpAny_bind (wpAny_field zr rfl (x:=.bool b1) rfl ?_);cases b1 with
 | true=>exact wpAny_pure (h _ zr (.refl ..))
 | false=>exact wpAny_bind (wpAny_setField_rec zr (by simp) λh' zr' sb=>wpAny_pure (h h' zr' sb))
theorem Gy {z TI TO T i1 i2 l1 l2:Addr} {Q:Value->Shared->Prop} (D:ZipApart z TI TO i1 i2 l1 l2) (zr:zu s.heap z TI TO (rawInt T) (.bool b1)) (al:s.heap.get? T=some o)
  (pt:IsPair s.heap TI (.ref i1) (.ref i2)) (j1:s.heap.IsListIter i1 l1 k1) (j2:s.heap.IsListIter i2 l2 k2) (m1:s.heap.IsList l1 us) (m2:s.heap.IsList l2 ws) (eu:us[k1]?=some u) (ev:ws[k2]?=some v)
  (hQ:∀h',zu h' z TI TO (rawInt T) (.bool true)->h'.IsListIter i1 l1 (k1+1)->h'.IsListIter i2 l2 (k2+1)->IsPair h' s.heap.objs.size u v->(∀c o,c≠z->c≠i1->c≠i2->s.heap.get? c=some o->h'.get? c=some o)->Q (.ref s.heap.objs.size) { s with heap:=h' }) :
  wpAny (model prog w) A (Builtin.«zip.__next__» ⟨[.ref z],[]⟩) (λfin s'=>∃v,fin=.done (.ret v)/\Q v s') E s:=by
 change wpAny _ _ (field (Value.ref z) 2 >>= _) _ _ s
 refine wpAny_bind (wpAny_field zr rfl (x:=.bool false) rfl ?_)
 change wpAny _ _ (field (Value.ref z) 3 >>= _) _ _ s
 refine wpAny_bind (wpAny_field zr rfl (x:=.ref TI) rfl (wpAny_bind (wpAny_seqItems pt rfl ?_)))
 change wpAny _ _ (Builtin.SmallTypes.ownedTupleIsFree (Value.ref z) >>= _) _ _ s
 refine wpAny_bind (yt zr al λg1 zr1 sb1=>?_);simp only[gJ,if_false];refine wpAny_bind ?_;rw[<- Array.forIn_toList];simp only[JF,A0];have j1':=j1.extBut sb1.extBut D.i1z;have m1':=m1.extBut sb1.extBut D.l1z;refine wpAny_bind (wpAny_bind (wpAny_holding ?_))
 change wpAny _ _ (Builtin.SmallTypes.nextOf (Value.ref i1) >>= _) _ _ _
 refine wpAny_bind (wpAny_nextOf_list_item j1' m1' eu λg2 j1a sb2=>wpAny_pure ?_);refine wpAny_pure ?_;have j2':=(j2.extBut sb1.extBut D.i2z).extBut sb2.extBut D.i12.symm;have m2':=(m2.extBut sb1.extBut D.l2z).extBut sb2.extBut D.l2i1;refine wpAny_bind (wpAny_bind (wpAny_holding ?_))
 change wpAny _ _ (Builtin.SmallTypes.nextOf (Value.ref i2) >>= _) _ _ _
 refine wpAny_bind (wpAny_nextOf_list_item j2' m2' ev λg3 j2a sb3=>wpAny_pure ?_);refine wpAny_pure (wpAny_pure ?_);refine wpAny_bind (wpAny_newTuple (hsz:=ib rfl) ?_);have sz:g3.objs.size=s.heap.objs.size:=by rw[sb3.1,sb2.1,sb1.1]
 have up:∀c o,c≠z->c≠i1->c≠i2->s.heap.get? c=some o->g3.get? c=some o:=λc o c1 c2 c3 e=>sb3.extBut _ _ c3 (sb2.extBut _ _ c2 (sb1.extBut _ _ c1 e))
 have zr3:zu g3 z TI TO (rawInt T) (.bool true):=sb3.extBut _ _ D.i2z.symm (sb2.extBut _ _ D.i1z.symm zr1);refine wpAny_pure ⟨_,rfl,?_⟩
 change Q (.ref g3.objs.size) { s with heap:=g3.push { cls:=.type "tuple",data:=.seq #[u,v] } }
 have last:=hQ (g3.push { cls:=.type "tuple",data:=.seq #[u,v] }) (Heap.get?_push_of_some _ zr3) ((j1a.extBut sb3.extBut D.i12).at λo e=>Heap.get?_push_of_some _ e) (j2a.at λo e=>Heap.get?_push_of_some _ e)
  (by rw[<- sz];exact Heap.get?_push_size _ rfl) λc o c1 c2 c3 e=>Heap.get?_push_of_some _ (up c o c1 c2 c3 e)
 rw[sz];exact last
theorem IC {z TI TO T i1 i2 l1 l2:Addr} (hh:A.handled=none) (D:ZipApart z TI TO i1 i2 l1 l2) (zr:zu s.heap z TI TO (rawInt T) (.bool b1)) (al:s.heap.get? T=some o)
  (pt:IsPair s.heap TI (.ref i1) (.ref i2)) (j1:s.heap.IsListIter i1 l1 k1) (m1:s.heap.IsList l1 us) (eu:us[k1]?=none)
  (hE:∀h' e,(∀c o,c≠z->c≠i1->c≠i2->s.heap.get? c=some o->h'.get? c=some o)->(∃o,h'.get? e=some o/\o.cls=.type "StopIteration")->E (.ref e) { s with heap:=h' }) :
  wpAny (model prog w) A (Builtin.«zip.__next__» ⟨[.ref z],[]⟩) Q E s:=by
 change wpAny _ _ (field (Value.ref z) 2 >>= _) _ _ s
 refine wpAny_bind (wpAny_field zr rfl (x:=.bool false) rfl ?_)
 change wpAny _ _ (field (Value.ref z) 3 >>= _) _ _ s
 refine wpAny_bind (wpAny_field zr rfl (x:=.ref TI) rfl (wpAny_bind (wpAny_seqItems pt rfl ?_)))
 change wpAny _ _ (Builtin.SmallTypes.ownedTupleIsFree (Value.ref z) >>= _) _ _ s
 refine wpAny_bind (yt zr al λg1 zr1 sb1=>?_);simp only[gJ,if_false];refine wpAny_bind ?_;rw[<- Array.forIn_toList];simp only[JF,A0];refine wpAny_bind (wpAny_bind (wpAny_holding ?_))
 change wpAny _ _ (Builtin.SmallTypes.nextOf (Value.ref i1) >>= _) _ _ _
 exact wpAny_bind (wpAny_nextOf_list_end hh (j1.extBut sb1.extBut D.i1z) (m1.extBut sb1.extBut D.l1z) eu λg2 e xb he=>hE g2 e (λc o c1 c2 _ q=>xb _ _ c2 (sb1.extBut _ _ c1 q)) he)
theorem Gx {z TI TO T i1 i2 l1 l2:Addr} (D:ZipApart z TI TO i1 i2 l1 l2) (zr:zu s.heap z TI TO (rawInt T) (.bool b1)) (al:s.heap.get? T=some o)
  (pt:IsPair s.heap TI (.ref i1) (.ref i2)) (j1:s.heap.IsListIter i1 l1 k1) (j2:s.heap.IsListIter i2 l2 k2) (m1:s.heap.IsList l1 us) (m2:s.heap.IsList l2 ws) (eu:us[k1]?=some u) (ev:ws[k2]?=some v)
  (hQ:∀h',zu h' z TI TO (rawInt T) (.bool true)->h'.IsListIter i1 l1 (k1+1)->h'.IsListIter i2 l2 (k2+1)->IsPair h' s.heap.objs.size u v->(∀c o,c≠z->c≠i1->c≠i2->s.heap.get? c=some o->h'.get? c=some o)->Q (some (.ref s.heap.objs.size)) { s with heap:=h' }) :
  wpAny (model prog w) A (pyNext (.ref z)) Q E s:=by
 have ty:s.TypeIs (.ref z) "zip":=⟨_,zr,rfl⟩;unfold pyNext;refine wpAny_bind (wpAny_attempt (wpAny_callSpecial?_slot (name:=Str.ofString "__next__") ty mW (wpAny_call_entry mW ty PySem.F.entry_zip_next ?_ (OS _))));exact Gy D zr al pt j1 j2 m1 m2 eu ev λh' a1 a2 a3 a4 a5=>wpAny_pure (hQ h' a1 a2 a3 a4 a5)
theorem Gv {z TI TO T i1 i2 l1 l2:Addr} (hh:A.handled=none) (D:ZipApart z TI TO i1 i2 l1 l2) (zr:zu s.heap z TI TO (rawInt T) (.bool b1)) (al:s.heap.get? T=some o)
  (pt:IsPair s.heap TI (.ref i1) (.ref i2)) (j1:s.heap.IsListIter i1 l1 k1) (m1:s.heap.IsList l1 us) (eu:us[k1]?=none)
  (hQ:∀h',(∀c o,c≠z->c≠i1->c≠i2->s.heap.get? c=some o->h'.get? c=some o)->Q none { s with heap:=h' }):wpAny (model prog w) A (pyNext (.ref z)) Q E s:=by
 have ty:s.TypeIs (.ref z) "zip":=⟨_,zr,rfl⟩;unfold pyNext;refine wpAny_bind (wpAny_attempt (wpAny_callSpecial?_slot (name:=Str.ofString "__next__") ty mW (wpAny_call_entry mW ty PySem.F.entry_zip_next ?_ (OS _))));refine IC hh D zr al pt j1 m1 eu λh' e kk ⟨oe,he,hc⟩=>?_
 exact wpAny_bind (wpAny_isInstance (T:="StopIteration") (b:=true) ⟨oe,he,hc⟩ isSubtype_stop (wpAny_pure (hQ _ kk)))
end
section
variable {X:Cx} {pins:List (Addr×Obj)} {σ:St} {H:Hp} {s:Shared}
theorem Inv.moved {ch:List Addr} (I:Inv X pins σ H s) (fx:∀b∈ch,jg X pins H b) (up:∀b o,b∉ch->s.heap.get? b=some o->h'.get? b=some o) (hg:AllBare g') :
  Inv X pins σ H { s with heap:=h',gens:=g',drawn:=d',toks:=t' }:=by
 have nx:∀b o,H b=some o->b∉ch:=λb o e hb=>by have:=(fx b hb).1;rw[this] at e;cases e
 refine I.step (ch:=ch) (λb hb=>?_) (λb o _ _ hb e _=>up b o hb e) (λb o _ _ hb e _=>⟨o.slots,up b o hb e⟩) (λb o hb e n=>n) (λb o hb e=>⟨o,up b o hb e⟩) (λb q e=>e) (λb o q e=>e) (λb q e=>⟨#[],by rw[e];simp⟩) (λm hm=>?_) (λb o e=>?_) hg
 ·obtain ⟨_,f1,_,f3,f4,f5⟩:=fx b hb;exact ⟨f3,f1,f4,f5⟩
 ·obtain ⟨o,es,ep,ho,r⟩:=hm;exact ⟨o,es,ep,up _ o (λz=>(fx _ z).2.1 rfl) ho,r⟩
 ·refine (I.hok b o e).stay (λc v' hc q=>up c v' ?_ q) (λc q=>q) λc xs q=>q
  rcases hc with rfl | hc
  ·exact nx _ _ e
  ·exact nx _ _ hc
theorem Inv.track (I:Inv X pins σ H s) (fp:jg X pins H p) (new:gZ X.prog X.w (upd H p o) s.heap p o):Inv X pins σ (upd H p o) s:=by
 have nt:∀{b:Addr} {u:HO},H b=some u->b≠p:=λe z=>by rw[z,fp.1] at e;cases e
 refine I.step (h':=s.heap) (g':=s.gens) (d':=s.drawn) (t':=s.toks) (ch:=[p]) (λb hb=>?_) (λb o _ _ _ e _=>e) (λb o _ _ _ e _=>⟨o.slots,e⟩) (λb o hb e n=>?_) (λb o _ e=>⟨o,e⟩) (λb q e=>by rw[br (nt e)];exact e) (λb o q e=>by rw[br (nt e)];exact e)
  (λb q e=>⟨#[],by rw[br (nt e),e];simp⟩) (λm hm=>hm) (λb u e=>?_) I.bare
 ·have e:b=p:=by simpa using hb
  subst e;obtain ⟨_,f1,_,f3,f4,f5⟩:=fp;exact ⟨f3,f1,f4,f5⟩
 ·rw[br λz=>hb (by simp [z])];exact n
 ·by_cases hb:b=p
  ·subst hb;rw[aH] at e;cases e;exact new
  ·rw[br hb] at e;exact (I.hok b u e).stay (λc v _ q=>q) (λc q=>by rw[br (nt q)];exact q) λc xs q=>by rw[br (nt q)];exact q
end
def LR (H:Hp) (p:V×V) (x:V):Prop:=∃T,x=.ref T/\H T=some (.tup [p.1,p.2])
theorem LR.same (h:LR H p x) (e:aF H H'):LR H' p x:=by obtain ⟨T,q,g⟩:=h;exact ⟨T,q,e _ _ g⟩
def Zst (h:Heap) (z TI TO:Addr) (base:Nat):Prop:=(∃a b,IsPair h TO a b)/\(IsZip h z TI TO .none\/∃(T:Addr) (b1:Bool) (o:Obj),zu h z TI TO (rawInt T) (.bool b1)/\h.get? T=some o/\@LE.le Nat instLENat base T)
theorem A1 {z TI TO i1 i2 l1 l2:Addr} (hz:zu h z TI TO f0 f1) (hTI:IsPair h TI (.ref i1) (.ref i2)) (hTO:IsPair h TO a b) (h1:h.IsListIter i1 l1 k1) (h2:h.IsListIter i2 l2 k2) (hl1:h.IsList l1 xs) (hl2:h.IsList l2 ys) (hT:TI≠TO) (hi:i1≠i2):ZipApart z TI TO i1 i2 l1 l2:=by
 obtain ⟨o1,g1,c1,_⟩:=h1;obtain ⟨o2,g2,c2,_⟩:=h2;obtain ⟨p1,q1,d1,_⟩:=hl1;obtain ⟨p2,q2,d2,_⟩:=hl2;have zt:Value.type "zip"≠.type "tuple":=ka (by decide);have it:Value.type "list_iterator"≠.type "tuple":=ka (by decide);have iz:Value.type "list_iterator"≠.type "zip":=ka (by decide);have lz:Value.type "list"≠.type "zip":=ka (by decide);have lt:Value.type "list"≠.type "tuple":=ka (by decide);have li:Value.type "list"≠.type "list_iterator":=ka (by decide)
 exact ⟨cX hTI hz zt.symm,cX hTO hz zt.symm,cX g1 hz (by rw[c1];exact iz),cX g2 hz (by rw[c2];exact iz),hT,cX hTI g1 (by rw[c1];exact it.symm),cX hTI g2 (by rw[c2];exact it.symm),cX hTO g1 (by rw[c1];exact it.symm),cX hTO g2 (by rw[c2];exact it.symm),hi,
  cX q1 hz (by rw[d1];exact lz),cX q1 hTO (by rw[d1];exact lt),cX q1 g1 (by rw[d1,c1];exact li),cX q1 g2 (by rw[d1,c2];exact li),cX q2 hz (by rw[d2];exact lz),cX q2 hTO (by rw[d2];exact lt),cX q2 g1 (by rw[d2,c1];exact li),cX q2 g2 (by rw[d2,c2];exact li)⟩
section
variable {X:Cx} {pins:List (Addr×Obj)} {σ:St}
theorem jg.heap (f:jg X pins H b) (e:H' b=none):jg X pins H' b:=⟨e,f.2⟩
structure Cr where
 z:Addr
 TI:Addr
 TO:Addr
 i1:Addr
 i2:Addr
 S:Addr
 base:Nat
def Cr.all (a:Cr):List Addr:=[a.z,a.TI,a.TO,a.i1,a.i2,a.S]
structure Cr.Ok (a:Cr):Prop where
 tt:a.TI≠a.TO
 ii:a.i1≠a.i2
 Sz:a.S≠a.z
 STI:a.S≠a.TI
 STO:a.S≠a.TO
 Si1:a.S≠a.i1
 Si2:a.S≠a.i2
 lt:∀b∈a.all,@LT.lt Nat instLTNat b a.base
structure K4 (X:Cx) (pins:List (Addr×Obj)) (σ:St) (H1:Hp) (a:Cr) (l1 l2:Addr) (i:Nat) (H:Hp) (s:Shared):Prop where
 inv:Inv X pins σ H s
 same:aF H1 H
 fps:∀b∈a.all,jg X pins H b
 sz:a.base<=s.heap.objs.size
 zst:Zst s.heap a.z a.TI a.TO a.base
 pt:IsPair s.heap a.TI (.ref a.i1) (.ref a.i2)
 j1:s.heap.IsListIter a.i1 l1 i
 j2:s.heap.IsListIter a.i2 l2 i
variable {a:Cr} {l1 l2:Addr} {H1 H:Hp} {s:Shared} {i:Nat} {xs ys:List V}
theorem K4.push (L:K4 X pins σ H1 a l1 l2 i H s) (O:a.Ok) (k:∀b o,b≠a.S->s.heap.get? b=some o->h'.get? b=some o) (hz:h'.objs.size=s.heap.objs.size):K4 X pins σ H1 a l1 l2 i H { s with heap:=h' }:=by
 refine ⟨L.inv.moved (g':=s.gens) (d':=s.drawn) (t':=s.toks) (ch:=[a.S]) (λb hb=>?_) (λb o hb e=>k b o (λz=>hb (by simp [z])) e) L.inv.bare,L.same,L.fps,by show a.base<=h'.objs.size;rw[hz];exact L.sz,?_,k _ _ O.STI.symm L.pt,L.j1.at λo e=>k _ o O.Si1.symm e,L.j2.at λo e=>k _ o O.Si2.symm e⟩
 ·have e:b=a.S:=by simpa using hb
  rw[e];exact L.fps _ (by simp [Cr.all])
 ·obtain ⟨⟨c,d,z0⟩,z4⟩:=L.zst;refine ⟨⟨c,d,k _ _ O.STO.symm z0⟩,?_⟩;rcases z4 with z1 | ⟨T,b1,o,z1,z2,z3⟩
  ·exact .inl (k _ _ O.Sz.symm z1)
  ·refine .inr ⟨T,b1,o,k _ _ O.Sz.symm z1,k _ _ (λe=>?_) z2,z3⟩;have:=O.lt a.S (by simp [Cr.all]);rw[<- e] at this;exact absurd this (Nat.not_lt.mpr z3)
theorem Hr (O:a.Ok) (q1:bO X.K H1 l1 xs) (q2:bO X.K H1 l2 ys) (ex:xs[i]?=some x) (ey:ys[i]?=some y) (L:K4 X pins σ H1 a l1 l2 i H s)
  (hQ:∀s',K4 X pins σ H1 a l1 l2 (i+1) (upd H s.heap.objs.size (.tup [x,y])) s'->(∀c o,c∉[a.z,a.TO,a.i1,a.i2]->s.heap.get? c=some o->s'.heap.get? c=some o)->H s.heap.objs.size=none->Q (some (.ref s.heap.objs.size)) s'):wpAny (model X.prog X.w) A' (pyNext (.ref a.z)) Q E s:=by
 obtain ⟨I,sm,fps,sz,zst,pt,j1,j2⟩:=id L;obtain ⟨us,ru,pu,_⟩:=I.list (sm.seq q1);obtain ⟨ws,rw',pw,_⟩:=I.list (sm.seq q2);obtain ⟨u,eu,r1⟩:=ru.get ex;obtain ⟨v,ev,r2⟩:=rw'.get ey;have fx:∀b∈[a.z,a.TO,a.i1,a.i2],jg X pins H b:=λb hb=>fps b (by simp only[Cr.all,aE,aV,or_false] at hb ⊢;rcases hb with e | e | e | e <;> simp [e])
 have hT0:H s.heap.objs.size=none:=I.hok.fresh (ak _);have fT:jg X pins H s.heap.objs.size:=I.fpOk (ak _) hT0;have lt:∀b∈a.all,b≠s.heap.objs.size:=λb hb e=>by have:=O.lt b hb;rw[e] at this;exact absurd this (Nat.not_lt.mpr sz)
 have fin:∀h',(∀c o,c∉[a.z,a.TO,a.i1,a.i2]->s.heap.get? c=some o->h'.get? c=some o)->IsPair h' s.heap.objs.size u v->IsPair h' a.TI (.ref a.i1) (.ref a.i2)->h'.IsListIter a.i1 l1 (i+1)->h'.IsListIter a.i2 l2 (i+1)->Zst h' a.z a.TI a.TO a.base →
   Q (some (.ref s.heap.objs.size)) { s with heap:=h' }:=λh' up pr pt' j1' j2' zst'=>by
  have I2:Inv X pins σ H { s with heap:=h' }:=I.moved (g':=s.gens) (d':=s.drawn) (t':=s.toks) fx up I.bare;have I3:Inv X pins σ (upd H s.heap.objs.size (.tup [x,y])) { s with heap:=h' }:=I2.track fT ⟨ib rfl,[u,v],.cons r1 (.cons r2 .nil),⟨_,pr,rfl,_,rfl⟩⟩;refine hQ _ ⟨I3,sm.trans (aF.new hT0),λb hb=>(fps b hb).heap (by rw[br (lt b hb)];exact (fps b hb).1),?_,zst',pt',j1',j2'⟩ up hT0;exact ai sz (aN (Heap.lt_size pr))
 obtain ⟨⟨c,d,z0⟩,z4⟩:=zst;rcases z4 with z1 | ⟨T,b1,o,z1,z2,z3⟩
 ·have D:=A1 z1 pt z0 j1 j2 pu.isList pw.isList O.tt O.ii;refine wpAny_pyNext_zip_item D z1 pt z0 j1 j2 pu.isList pw.isList (x:=u) (y:=v) (by simpa using eu) (by simpa using ev) λh' a1 a2 a3 a4 a5 a6 hk=>?_
  have up:∀c o,c∉[a.z,a.TO,a.i1,a.i2]->s.heap.get? c=some o->h'.get? c=some o:=λc o hc e=>by
   simp only[aE,aV,or_false,not_or] at hc;exact hk c o hc.1 hc.2.1 hc.2.2.1 hc.2.2.2 e
  exact fin h' up a5 (hk _ _ D.TIz D.TITO D.TIi1 D.TIi2 pt) a3 a4 ⟨⟨_,_,a2⟩,.inr ⟨s.heap.objs.size,false,_,a1,a5,sz⟩⟩
 ·have D:=A1 z1 pt z0 j1 j2 pu.isList pw.isList O.tt O.ii;refine Gx D z1 z2 pt j1 j2 pu.isList pw.isList (u:=u) (v:=v) (by simpa using eu) (by simpa using ev) λh' a1 a3 a4 a5 hk=>?_
  have up:∀c o,c∉[a.z,a.TO,a.i1,a.i2]->s.heap.get? c=some o->h'.get? c=some o:=λc o hc e=>by
   simp only[aE,aV,or_false,not_or] at hc;exact hk c o hc.1 hc.2.2.1 hc.2.2.2 e
  have Tn:∀b∈a.all,T≠b:=λb hb e=>by have:=O.lt b hb;rw[<- e] at this;exact absurd this (Nat.not_lt.mpr z3)
  exact fin h' up a5 (hk _ _ D.TIz D.TIi1 D.TIi2 pt) a3 a4 ⟨⟨_,_,hk _ _ D.TOz D.TOi1 D.TOi2 z0⟩,.inr ⟨T,true,o,a1,hk _ _ (Tn _ (by simp [Cr.all])) (Tn _ (by simp [Cr.all])) (Tn _ (by simp [Cr.all])) z2,z3⟩⟩
theorem G7 (hh:A'.handled=none) (O:a.Ok) (q1:bO X.K H1 l1 xs) (q2:bO X.K H1 l2 ys) (hi:xs.length<=i) (L:K4 X pins σ H1 a l1 l2 i H s)
  (hQ:∀s',Inv X pins σ H s'->(∀c o,c∉[a.z,a.TO,a.i1,a.i2]->s.heap.get? c=some o->s'.heap.get? c=some o)->Q none s'):wpAny (model X.prog X.w) A' (pyNext (.ref a.z)) Q E s:=by
 obtain ⟨I,sm,fps,sz,zst,pt,j1,j2⟩:=id L;obtain ⟨us,ru,pu,_⟩:=I.list (sm.seq q1);obtain ⟨ws,rw',pw,_⟩:=I.list (sm.seq q2);have lx:=ru.length;have none1:us.toArray[i]?=none:=by simp;lia
 have fx:∀b∈[a.z,a.TO,a.i1,a.i2],jg X pins H b:=λb hb=>fps b (by simp only[Cr.all,aE,aV,or_false] at hb ⊢;rcases hb with e | e | e | e <;> simp [e])
 have fin:∀h',(∀c o,c∉[a.z,a.TO,a.i1,a.i2]->s.heap.get? c=some o->h'.get? c=some o)->Q none { s with heap:=h' }:=λh' up=>hQ _ (I.moved (g':=s.gens) (d':=s.drawn) (t':=s.toks) fx up I.bare) up
 obtain ⟨⟨c,d,z0⟩,z4⟩:=zst;rcases z4 with z1 | ⟨T,b1,o,z1,z2,z3⟩
 ·have D:=A1 z1 pt z0 j1 j2 pu.isList pw.isList O.tt O.ii;refine wpAny_pyNext_zip_end hh D z1 pt z0 j1 j2 pu.isList pw.isList (.inl none1) λh' hk=>fin h' λc o hc e=>?_
  simp only[aE,aV,or_false,not_or] at hc;exact hk c o hc.1 hc.2.1 hc.2.2.1 hc.2.2.2 e
 ·have D:=A1 z1 pt z0 j1 j2 pu.isList pw.isList O.tt O.ii;refine Gv hh D z1 z2 pt j1 pu.isList none1 λh' hk=>fin h' λc o hc e=>?_
  simp only[aE,aV,or_false,not_or] at hc;exact hk c o hc.1 hc.2.2.1 hc.2.2.2 e
theorem Ht (hh:A'.handled=none) (O:a.Ok) (hz:xs.length<=sizeLine) (hl:ys.length=xs.length) (q1:bO X.K H1 l1 xs) (q2:bO X.K H1 l2 ys)
  (fin:∀s' H' ts acc c,Inv X pins σ H' s'->aF H1 H'->jg X pins H' a.S->s'.heap.get? a.S=some (lobj acc c)->cC ts acc->Paired (LR H') (xs.zip ys) ts->R (.ok (.ret .none)) s') :
  ∀(k i:Nat) (s:Shared) (H:Hp) (ts:List V) (acc:List Value) (c:Nat),xs.length - i=k->i<=xs.length->K4 X pins σ H1 a l1 l2 i H s->s.heap.get? a.S=some (lobj acc c)->cC ts acc->Paired (LR H) ((xs.zip ys).take i) ts →
   codeAny (model X.prog X.w) A' (.builtin "list.extend.loop" ⟨[.ref a.S,.ref a.z,.none],[]⟩) R s:=by
 have Sn:a.S∉[a.z,a.TO,a.i1,a.i2]:=λh=>by
  simp only[aE,aV,or_false] at h;rcases h with e | e | e | e
  ·exact O.Sz e
  ·exact O.STO e
  ·exact O.Si1 e
  ·exact O.Si2 e
 intro k
 induction k with
 | zero =>
  intro i s H ts acc c hk hi L gS rv prs;have e:i=xs.length:=by lia
  refine codeAny_builtin Nu ?_;rw[Around.under_plainId jE _]
  change wpAny _ A'.in1 (pyNext (Value.ref a.z) >>= _) _ _ s
  refine wpAny_bind (G7 hh O q1 q2 (by lia) L λs' I' up=>wpAny_pure (fin s' H ts acc c I' L.same (L.fps _ (by simp [Cr.all])) (up _ _ Sn gS) rv ?_));rwa [aG (by rw[zA];lia)] at prs
 | succ k ih =>
  intro i s H ts acc c hk hi L gS rv prs;have hlt:i < xs.length:=by lia
  have lt:=prs.length;have la:=rv.length;refine codeAny_builtin Nu ?_;rw[Around.under_plainId jE _]
  change wpAny _ A'.in1 (pyNext (Value.ref a.z) >>= _) _ _ s
  refine wpAny_bind (Hr O q1 q2 (x:=xs[i]) (y:=ys[i]'(by lia)) (by simp [hlt]) (by simp) L λs' L' up hT=>?_);have gS':=up _ _ Sn gS
  change wpAny _ A'.in1 (updateSeq a.S (·.push (Value.ref s.heap.objs.size)) >>= _) _ _ s'
  have small:acc.length<=sizeLine:=by
   rw[cN,zA] at lt
   lia
  refine wpAny_bind (wpAny_updateSeq gS' rfl (wpAny_pure ⟨plainId_quiet jE _,?_⟩) (by rw[aL];exact small) (by
   show (acc.toArray.push (Value.ref s.heap.objs.size)).size<=sizeLine+1
   rw[Array.size_push,aL]
   lia))
  have gS2:=jv gS' (λb=>b.push (Value.ref s.heap.objs.size));have e2:(acc.toArray.push (Value.ref s.heap.objs.size))=(acc++[Value.ref s.heap.objs.size]).toArray:=by simp
  rw[e2] at gS2;refine ih (i+1) _ (upd H s.heap.objs.size (.tup [xs[i],ys[i]'(by lia)])) (ts++[.ref s.heap.objs.size]) (acc++[.ref s.heap.objs.size]) _ (by lia) hlt (L'.push O (λb o hb e=>(Heap.get?_update_other _ _ (Ne.symm hb)).trans e) (Heap.size_update ..)) gS2 (rv.append (show cC [V.ref s.heap.objs.size] [Value.ref s.heap.objs.size] from .cons rfl .nil)) ?_;have zp:(xs.zip ys)[i]?=some (xs[i],ys[i]'(by lia)):=by simp [Nv,hlt]
  rw[take_snoc zp];exact (Paired.imp' (λ_ _ z=>z.same (aF.new hT)) prs).snoc ⟨_,rfl,aH⟩
theorem DR:typeLookup (.type "zip") "__len__"=pure Option.none:=by rw[typeLookup_type,builtinLookup_eq_fast];kernel_rfl
theorem CD:typeLookup (.type "zip") "__length_hint__"=pure Option.none:=by rw[typeLookup_type,builtinLookup_eq_fast];kernel_rfl
theorem Hs (hh:A'.handled=none) (O:a.Ok) (hz:xs.length<=sizeLine) (hl:ys.length=xs.length) (q1:bO X.K H1 l1 xs) (q2:bO X.K H1 l2 ys) (L:K4 X pins σ H1 a l1 l2 0 H s) (gS:s.heap.get? a.S=some (lobj [] 0)) (z0:IsZip s.heap a.z a.TI a.TO .none)
  (fin:∀s' H' ts acc c,Inv X pins σ H' s'->aF H1 H'->jg X pins H' a.S->s'.heap.get? a.S=some (lobj acc c)->cC ts acc->Paired (LR H') (xs.zip ys) ts->R (.ok (.ret .none)) s') :
  wpAny (model X.prog X.w) A'.in1 (Builtin.«list.__init__» ⟨[.ref a.S,.ref a.z],[]⟩) (λfl s'=>match fl with | .done f=>R (.ok f) s' | .again c'=>c'.quiet=true/\codeAny (model X.prog X.w) A' c' R s') (λe s'=>R (.error e) s') s:=by
 change wpAny _ A'.in1 (do let old <- Builtin.List.listItems (Value.ref a.S);Builtin.List.listUpdate (Value.ref a.S) (λ_=>#[]);letGo old.toList.reverse;Builtin.List.listExtendWith (Value.ref a.S) (Value.ref a.z) Value.none) _ _ s
 refine wpAny_bind ?_;unfold Builtin.List.listItems;refine wpAny_bind (wpAny_seqItems gS rfl (wpAny_pure ?_))
 change wpAny _ A'.in1 (updateSeq a.S (λ_=>#[]) >>= λ_=>letGo (#[]:Array Value).toList.reverse >>= λ_=>Builtin.List.listExtendWith (Value.ref a.S) (Value.ref a.z) Value.none) _ _ s
 refine wpAny_bind (wpAny_updateSeq gS rfl ?_);have g1:=jv gS (λ_=>(#[]:Array Value));obtain ⟨n1,g1⟩:∃n1,(s.heap.update a.S (Obj.mapSeq λ_=>(#[]:Array Value))).get? a.S=some (lobj [] n1):=⟨_,g1⟩;have L1:=L.push (h':=s.heap.update a.S (Obj.mapSeq λ_=>(#[]:Array Value))) O (λb o hb e=>(Heap.get?_update_other _ _ (Ne.symm hb)).trans e) (Heap.size_update ..);have z1:IsZip (s.heap.update a.S (Obj.mapSeq λ_=>(#[]:Array Value))) a.z a.TI a.TO .none:=(Heap.get?_update_other _ _ O.Sz).trans z0;refine wpAny_bind (wpAny_letGo ?_);unfold Builtin.List.listExtendWith;have ty:Shared.TypeIs { s with heap:=s.heap.update a.S (Obj.mapSeq λ_=>(#[]:Array Value)) } (.ref a.z) "zip":=⟨_,z1,rfl⟩;refine wpAny_bind (wpAny_typeOf ty ?_);have h1:Builtin.List.listSameRef (.ref a.S) (.ref a.z)=false:=by simp [Builtin.List.listSameRef,O.Sz]
 have h2:(Value.type "zip" == Value.type "list")=false:=by decide
 have h3:(Value.type "zip" == Value.type "tuple")=false:=by decide
 simp only[h1,h2,h3,Bool.or_false,gJ,if_false];refine wpAny_bind (wpAny_pyIter_zip z1 (wpAny_bind (wpAny_holding ?_)));unfold Builtin.List.listLengthHint;refine wpAny_bind (wpAny_specialOf ty DR ?_)
 change wpAny _ A'.in1 (specialOf (Value.ref a.z) (Str.ofString "__length_hint__") >>= _) _ _ _
 refine wpAny_bind (wpAny_specialOf ty CD (wpAny_pure ?_))
 change wpAny _ A'.in1 (rule "list.extend.makes-room" >>= λ_=>Builtin.List.listTouch (Value.ref a.S) >>= λ_=>again (.builtin "list.extend.loop" ⟨[Value.ref a.S,Value.ref a.z,Value.none],[]⟩)) _ _ _
 refine wpAny_bind (wpAny_rule (wpAny_bind ?_))
 change wpAny _ A'.in1 (updateSeq a.S (·.push Value.none) >>= λ_=>updateSeq a.S (·.pop)) _ _ _
 refine wpAny_bind (wpAny_updateSeq g1 rfl ?_);have g2:=jv g1 (λb=>b.push Value.none);obtain ⟨n2,g2⟩:∃n2,((s.heap.update a.S (Obj.mapSeq λ_=>(#[]:Array Value))).update a.S (Obj.mapSeq λb=>b.push Value.none)).get? a.S=some (lobj [Value.none] n2):=⟨_,g2⟩;have L2:=L1.push (h':=(s.heap.update a.S (Obj.mapSeq λ_=>(#[]:Array Value))).update a.S (Obj.mapSeq λb=>b.push Value.none)) O (λb o hb e=>(Heap.get?_update_other _ _ (Ne.symm hb)).trans e) (Heap.size_update ..);refine wpAny_updateSeq g2 rfl ?_ (ib rfl);have g3:=jv g2 (λb=>b.pop);have L3:=L2.push (h':=((s.heap.update a.S (Obj.mapSeq λ_=>(#[]:Array Value))).update a.S (Obj.mapSeq λb=>b.push Value.none)).update a.S (Obj.mapSeq λb=>b.pop)) O (λb o hb e=>(Heap.get?_update_other _ _ (Ne.symm hb)).trans e) (Heap.size_update ..);exact wpAny_pure ⟨plainId_quiet jE _,Ht hh O hz hl q1 q2 fin _ 0 _ H [] [] _ rfl (bu _) L3 g3 .nil .nil⟩
end
section
variable {X:Cx}
theorem LY (n:Nat):Cr.Ok ⟨n+4,n+2,n+3,n,n+1,n+5,n+5+1⟩:=by
 have ne:∀p q:Nat,p≠q->@Ne Addr p q:=λ_ _ h=>h
 refine ⟨ne (n+2) (n+3) (by lia),ne n (n+1) (by lia),ne (n+5) (n+4) (by lia),ne (n+5) (n+2) (by lia),ne (n+5) (n+3) (by lia),ne (n+5) n (by lia),ne (n+5) (n+1) (by lia),λb hb=>?_⟩;have hb':b∈[n+4,n+2,n+3,n,n+1,n+5]:=hb;show @LT.lt Nat instLTNat b (n+5+1)
 simp only[aE,aV,or_false] at hb';rcases hb' with e | e | e | e | e | e <;> (rw[e];exact bE (d6 _) (by lia))
def CI (K:FG9) (ta:TA):TE:=λσ H Q=>ta σ H λvs H1=>∃(l1 l2:Addr) (xs ys:List V),vs=[.ref l1,.ref l2]/\bO K H1 l1 xs/\bO K H1 l2 ys/\ys.length=xs.length /\
 ∀L ts H',aF H1 H'->H1 L=none->H' L=some (.lst ts)->Paired (LR H') (xs.zip ys) ts->Q (.ref L) H'
theorem Ec {e1 e2:Expr} {ta:TA} {p p2 pos pos2:Pos} (hg:Gl X "list") (hm:X.mg "list"=none) (hg2:Gl X "zip") (hm2:X.mg "zip"=none) (ha:PA X [e1,e2] ta) (hc:X.calm=true:=by rfl)
  (hs:starEach [e1,e2] X.env=[(false,eval e1 X.env),(false,eval e2 X.env)]:=by rfl) (hs2:starEach [e2] X.env=[(false,eval e2 X.env)]:=by rfl)
  (hs3:starEach [Expr.Call (.Name "zip" p2) [e1,e2] [] pos2] X.env=[(false,eval (.Call (.Name "zip" p2) [e1,e2] [] pos2) X.env)]:=by rfl) :
  PE X (.Call (.Name "list" p) [.Call (.Name "zip" p2) [e1,e2] [] pos2] [] pos) (CI X.K ta):=by
 intro pins s σ H Q I h;refine wpAny_Call_Name_kw (jc I hg hm boot_list ?_);refine PyProof.Rows.callWith_type1 ?_ (by rw[hs3];rfl) rfl;rw[hs3];show wpAny _ _ (spliced ((false,eval (.Call (.Name "zip" p2) [e1,e2] [] pos2) X.env) :: [])) _ _ s
 refine Calls.spliced_cons ?_;refine Call_ (jc I hg2 hm2 boot_zip (PyProof.Rows.callWith_type1 (fz (ha pos2 pins s σ H _ I h) λus s1 ⟨vs,H1,I1,r1,q1⟩=>?_) (by rw[hs,hs2]) (by rw[hs2];rfl)));obtain ⟨l1,l2,xs,ys,e,qx,qy,hl,q⟩:=q1;subst e;obtain ⟨u,v,rfl,ru,rv⟩:=vals2 r1;cases ru;cases rv;obtain ⟨us,rx,px,hz⟩:=I1.list qx;obtain ⟨ws,ry,py,_⟩:=I1.list qy;refine call_zip_2 px.isList py.isList λh' a1 a2 a3 a4 a5 a6 hk=>?_
 refine Calls.spliced_nil ?_;have I2:Inv X pins σ H1 { s1 with heap:=h' }:=I1.kept (t':=s1.toks) hk;have up:∀b o,h'.get? b=some o->(h'.push { cls:=.type "list",data:=.seq #[] }).get? b=some o:=λb o e=>Heap.get?_push_of_some _ e
 have O:Cr.Ok ⟨s1.heap.objs.size+4,s1.heap.objs.size+2,s1.heap.objs.size+3,s1.heap.objs.size,s1.heap.objs.size+1,h'.objs.size,h'.objs.size+1⟩:=by
  rw[a6];exact LY s1.heap.objs.size
 have old:∀b∈(Cr.mk (s1.heap.objs.size+4) (s1.heap.objs.size+2) (s1.heap.objs.size+3) s1.heap.objs.size (s1.heap.objs.size+1) h'.objs.size (h'.objs.size+1)).all,s1.heap.objs.size<=b:=λb hb=>by
  rw[a6] at hb;simp only[Cr.all,aE,aV,or_false] at hb;rcases hb with rfl | rfl | rfl | rfl | rfl | rfl <;> first | exact xf _ _ | exact ak _
 have gS:(h'.push { cls:=.type "list",data:=.seq #[] }).get? h'.objs.size=some (lobj [] 0):=Heap.get?_push_size _ rfl;refine callType_codes (Q₁:=λob t=>ob=.ref h'.objs.size/\t={ s1 with heap:=h'.push { cls:=.type "list",data:=.seq #[] } }) PySem.F.called_list (PySem.F.typeCall_list_1 _) PySem.F.entry_list_init (code_list_new _ ⟨rfl,rfl⟩) λob t ht=>?_
 obtain ⟨rfl,rfl⟩:=ht;refine ⟨⟨_,gS,rfl⟩,PySem.F.args_list_init_2 _ _,?_⟩
 have L:K4 X pins σ H1 ⟨s1.heap.objs.size+4,s1.heap.objs.size+2,s1.heap.objs.size+3,s1.heap.objs.size,s1.heap.objs.size+1,h'.objs.size,h'.objs.size+1⟩ l1 l2 0 H1 { s1 with heap:=h'.push { cls:=.type "list",data:=.seq #[] } } :=
  ⟨I2.kept (t':=s1.toks) up,aF.refl _,λb hb=>I1.fpOk (old b hb) (I1.hok.fresh (old b hb)),by rw[Heap.size_push];exact ak _,⟨⟨_,_,up _ _ a3⟩,.inl (up _ _ a1)⟩,up _ _ a2,a4.at λo e=>up _ o e,a5.at λo e=>up _ o e⟩
 refine Hs (A':=X.A.in1) (I.ok.hd hc) O hz hl qx qy L gS (up _ _ a1) λs' H' ts acc c I' sm fS gS' vs' prs=>⟨rfl,?_⟩
 have nS:H1 h'.objs.size=none:=I1.hok.fresh (old _ (by simp [Cr.all]));have lt:=prs.length;rw[zA] at lt;exact ⟨.ref h'.objs.size,_,I'.track (o:=.lst ts) fS ⟨by lia,acc,c,vs',gS'⟩,rfl,q _ ts _ (sm.trans (aF.new fS.1)) nS aH (Paired.imp' (λ_ _ z=>z.same (aF.new fS.1)) prs)⟩
end
end L2
namespace Nm
def vB:List Int->Int->Int
 | [],m=>m
 | b :: r,m=>vB r (m*(b / g m b))
theorem tK (hm:0 < m) (hb:0 < b):0 < m*(b / g m b):=gE hm (Ca (t:=m) hb)
theorem BU:b∣m*(b / g m b):=by
 have h1:=yK m b;refine ⟨lo m b,?_⟩;have h2:b / g m b*g m b=b:=vE m b
 calc m*(b / g m b)=lo m b*g m b*(b / g m b):=by rw[h1]
  _=lo m b*(b / g m b*g m b):=by rw[dn,eU (g m b)]
  _=b*lo m b:=by rw[h2,eU]
theorem yM:∀{bs:List Int} {m:Int},0 < m->(∀b∈bs,0 < b)->0 < vB bs m
 | [],_,hm,_=>hm
 | b :: r,m,hm,h=>yM (bs:=r) (tK hm (h b cp)) λc hc=>h c (bN _ hc)
theorem Dm:∀{bs:List Int} {m:Int},m∣vB bs m
 | [],_=>FW _
 | b :: r,m=>Int.dvd_trans (Int.dvd_mul_right m _) (Dm (bs:=r))
theorem Dl:∀{bs:List Int} {m b:Int},b∈bs->b∣vB bs m
 | c :: r,m,b,h=>by
  rcases aE.mp h with rfl | h
  ·exact Int.dvd_trans BU (Dm (bs:=r))
  ·exact Dl (bs:=r) h
end Nm
namespace L2
open PySem PySem.Spec PyProof.Rows Nm
def Ct (K:FG9) (H:Hp) (p:Addr) (ns:List (Int×Int)):Prop:=∃xs,H p=some (.lst xs)/\Paired (λn x=>DJ K H x n) ns xs
theorem Ct.same {K:FG9} (h:Ct K H p ns) (e:aF H H'):Ct K H' p ns:=by obtain ⟨xs,g,q⟩:=h;exact ⟨xs,e _ _ g,Paired.imp' (λ_ _ z=>e.num z) q⟩
def C8 (K:FG9) (T:String):V->Hp->VK->Prop:=λx H Q=>Gg K T x H Q\/∃a xs b,x=.ref a/\kD K H a xs/\PySem.W.kitOne K (.type "tuple") (.type T)=some b/\Q (.bl b) H
theorem Aj:∀{bs:List Int} {m b:Int},vB (bs++[b]) m=vB bs m*(b / g (vB bs m) b)
 | [],_,_=>rfl
 | c :: r,m,b=>Aj (bs:=r)
def eS (ns:List (Int×Int)) (B:Int):List Int:=ns.map λn=>n.1*(B / n.2)
def fI (ns:List (Int×Int)):Int:=vB (ns.map (·.2)) 1
def Jm (ns ms:List (Int×Int)):Int:=(List.zipWith (λx y=>x*y) (eS ns (fI ns)) (eS ms (fI ms))).sum
theorem mQ (h:n∈ns):n.2∣fI ns:=Dl (ay.mpr ⟨n,h,rfl⟩)
theorem Ea {K:FG9} (h:ta σ H λvs H1=>∃(l1 l2:Addr) (xs ys:List V),vs=[.ref l1,.ref l2]/\bO K H1 l1 xs/\bO K H1 l2 ys/\ys.length=xs.length /\
 ∀L ts H',aF H1 H'->H1 L=none->H' L=some (.lst ts)->Paired (LR H') (xs.zip ys) ts->Q (.ref L) H'):CI K ta σ H Q:=h
theorem Ph (hb:0 < b) (h:Sz k b):Sz k (g m b):=h.le (by
 have h1:(g m b).natAbs=Int.gcd m b:=by unfold g;simp
 rw[h1];exact ia (by lia) (by have:=eN (a:=m) (b:=b);exact d4.mpr this |> λz=>by simpa using z))
theorem JH {ts us:List Int} {i:Nat} (h:((ts.map V.int).zip (us.map V.int))[i]?=some pq):∃t u,ts[i]?=some t/\us[i]?=some u/\pq=(.int t,.int u):=by
 rw[Nv,aD,aD] at h;obtain ⟨h1,h2⟩:=h;cases e1:ts[i]? with
 | none=>rw[e1] at h1;cases h1
 | some t =>
  cases e2:us[i]? with
  | none=>rw[e2] at h2;cases h2
  | some u =>
   rw[e1] at h1;rw[e2] at h2;refine ⟨t,u,rfl,rfl,?_⟩;cases pq;simp at h1 h2;rw[h1,h2]
def F5 (K:FG9):Sp:=λvs H Q _=>∃x n,vs=[x]/\DJ K H x n/\uF n/\∀H',aF H H'->Q (.bl true) H'
inductive uQ (K:FG9) (vs:List V) (H:Hp) (Q:VK) (E9:XK):Prop
 | mk (p:Addr) (ns:List (Int×Int)):vs=[.ref p,.int ns.length]->Ct K H p ns->ns.length<=1000->(∀n∈ns,uF n)->(∀H',aF H H'->Q (.bl true) H')->uQ K vs H Q E9
theorem p9 {X:Cx} {a:Expr} {ta:TE} {pos:Pos} {c:Str} {T:String} {p p2:Pos} (hg:Gl X "isinstance") (hm:X.mg "isinstance"=none) (hb:bootBuiltins c=some (.type T)) (hmc:X.mg c=none) (ha:PE X a ta) (hgc:Gl X c:=by rfl) (hn:c≠"__name__":=by decide)
  (hd:(c == ("__debug__":Str))=false:=by decide) (he:starEach [a,.Name c p2] X.env=[(false,eval a X.env),(false,eval (.Name c p2) X.env)]:=by rfl)
  (hpl:(backTo pos (starEach [.Name c p2] X.env)).any (·.1)=false:=by rfl) (he2:starEach [.Name c p2] X.env=[(false,eval (.Name c p2) X.env)]:=by rfl):PE X (.Call (.Name "isinstance" p) [a,.Name c p2] [] pos) (OX (C8 X.K T) ta):=by
 intro pins s σ H Q I h;refine wpAny_Call_Name_kw (jc I hg hm PyProof.Rows.boot_isinstance ?_);have hA:PA X [a,.Name c p2] (oT ta (oT (tC (.ty T)) DX)):=ae ha (ae (Fc hgc hmc hb rfl hn hd) aj he2) (by rw[he,he2])
 have hq:oT ta (oT (tC (.ty T)) DX) σ H (λvs H1=>∃x,vs=[x,.ty T]/\C8 X.K T x H1 Q):=by
  show ta σ H λx H1=>∃x',[x,V.ty T]=[x',V.ty T]/\C8 X.K T x' H1 Q
  have e:(λx H1=>∃x',[x,V.ty T]=[x',V.ty T]/\C8 X.K T x' H1 Q)=λx H1=>C8 X.K T x H1 Q:=by
   funext x H1;apply propext;constructor
   ·rintro ⟨x',e,q⟩;cases e;exact q
   ·intro q;exact ⟨x,rfl,q⟩
  rw[e];exact h
 refine PyProof.Rows.callWith_builtin1 (fz (hA pos pins s σ H _ I hq) λus s1 ⟨vs,H1,I1,r1,x,e,q1⟩=>?_) (by rw[he,he2]) hpl;subst e;obtain ⟨u,w',rfl,ru,rt⟩:=vals2 r1;cases rt;rcases q1 with ⟨t,bb,ty,ek,q⟩ | ⟨ad,xs,bb,rfl,hs,ek,q⟩
 ·exact Al I1 ru ty ek λtk=>⟨.bl bb,H1,I1.tok tk,rfl,q⟩
 ·cases ru;obtain ⟨its,_,⟨o,g1,g2,_⟩,_⟩:=I1.tuple hs;exact c5 PySem.W.kitx_tuple I1.kIn ⟨o,g1,g2⟩ ek (λz=>nomatch z) λtk=>⟨.bl bb,H1,I1.tok tk,rfl,q⟩
theorem D9 (h:H l=some (.lst [x])) (hk:k<=1000) (q:∀p H',aF H H'->H p=none->H' p=some (.lst (List.replicate k x))->Q (.ref p) H'):Om (.ref l) (.int k) H Q :=
 ⟨l,k,[x],rfl,rfl,h,by lia,by lia,aN (bc (by simp;lia)),λp hp=>q p _ (aF.new hp) hp (by rw[aH];simp)⟩
theorem Jq {k:Nat} (h:k<=xs.length):qj xs none (some (k:Int))=xs.take k:=by
 unfold qj;rw[HT.ye,HT.Bw,Nat.min_eq_left h];simp
theorem DA {k:Nat}:qj xs (some (k:Int)) none=xs.drop k:=by
 unfold qj;rw[HT.ye,HT.Bw];by_cases h:k<=xs.length
 ·rw[Nat.min_eq_left h,aG (by simp)]
 ·rw[Nat.min_eq_right (by lia),lC (by lia),lC (by lia)];simp
theorem nG {α β:Type} {F:α->β->Prop} {x:α} {y:β} (h:F x y):∀m:Nat,Paired F (List.replicate m x) (List.replicate m y)
 | 0=>.nil
 | m+1=>.cons h (nG h m)
theorem eK (h:a < n):GU n (a:Int)=some a:=by
 unfold GU;rw[if_pos (by lia),if_pos (by lia),Int.toNat_natCast]
theorem Jp {k:Nat}:qj xs none (some (k:Int))=xs.take k:=by
 by_cases h:k<=xs.length
 ·exact Jq h
 ·unfold qj;rw[HT.ye,HT.Bw,Nat.min_eq_right (by lia),aG (by simp),aG (by lia)];rfl
theorem pL {α β:Type} {F:α->β->Prop}:∀{l1:List α} {l2:List β} (_:Paired F l1 l2) (k:Nat),Paired F (l1.take k) (l2.take k)
 | _,_,.nil,k=>by simp;exact .nil
 | _,_,.cons h r,0=>.nil
 | _,_,.cons h r,k+1=>.cons h (pL r k)
def Kr (K:FG9):List V->Hp->VK->Prop:=λxs H Q=>∃p ys,xs=[.ref p]/\(bO K H p ys\/kD K H p ys)/\∀l,H l=none->Q (.ref l) (upd H l (.lst ys))
theorem ju (K:FG9) (hK:X.K=K):p5 X (.type "list") (Kr K):=by subst hK;exact uj
theorem aF.none (s:aF H H') (h:H' l=Option.none):H l=Option.none:=by
 cases e:H l with
 | none=>rfl
 | some o=>have:=s _ _ e;rw[h] at this;cases this
def LU (K:FG9) (H:Hp) (p:Addr) (rows:List (List (Int×Int))):Prop:=∃xs,H p=some (.lst xs)/\Paired (λns x=>∃q,x=V.ref q/\Ct K H q ns) rows xs
theorem HG (h:b.natAbs<=1000000):Sz 20 b:=bg h (by decide)
theorem cU.none (u:cU b H H') (B:hZ H' b) (h:H' l=Option.none):H l=Option.none:=by
 cases e:H l with
 | none=>rfl
 | some o =>
  by_cases z:l=b
  ·obtain ⟨_,_,_,_,_,e2,_⟩:=B;rw[<- z,h] at e2;cases e2
  ·have:=u.1 l o e z;rw[h] at this;cases this
inductive xS (K:FG9) (vs:List V) (H:Hp) (Q:VK) (E9:XK):Prop
 | mk (p:Addr) (rows:List (List (Int×Int))) (m:Nat):vs=[.ref p,.int rows.length,.int m]->LU K H p rows->rows.length<=1000->m<=1000->((∀ns∈rows,ns.length=m/\∀n∈ns,uF n))->(∀H',aF H H'->Q (.bl true) H')->xS K vs H Q E9
end L2
namespace Nm
def nm (q:Rat):Int×Int:=(q.num,(q.den:Int))
theorem fO (q:Rat):0 < (nm q).2:=by have:=q.den_pos;show 0 < (q.den:Int);lia
theorem BQ (q:Rat):Int.gcd (nm q).1 (nm q).2=1:=q.reduced
theorem MO (h:nm p=nm q):p=q:=by
 have h1:p.num=q.num:=congrArg Prod.fst h;have h2:(p.den:Int)=q.den:=congrArg Prod.snd h;exact Rat.ext h1 (by lia)
theorem jX (q:Rat):(q.num:Rat)=q*(q.den:Rat):=by
 have h:=Rat.num_divInt_den q;rw[Rat.divInt_eq_div] at h
 have hd:((q.den:Int):Rat)≠0:=by
  intro z;have z:=w5.mp z;have:=q.den_pos
  lia
 have e:((q.den:Int):Rat)=(q.den:Rat):=aW _
 calc (q.num:Rat)=(q.num:Rat) / ((q.den:Int):Rat)*((q.den:Int):Rat):=(Rat.div_mul_cancel hd).symm
  _=q*(q.den:Rat):=by rw[h,e]
theorem Ov (hb:0 < b) (hg:Int.gcd a b=1) (e:q*(b:Rat)=(a:Rat)):(a,b)=nm q:=by
 have h1:a*(q.den:Int)=q.num*b:=by
  apply dq.mp;rw[aS,aS,<- e,jX,aW];grind
 obtain ⟨e1,e2⟩:=uniq hb (fO q) hg (BQ q) h1;exact Prod.ext e1 e2
theorem oi {t b:Int} (hb:0 < b) (e:q*(b:Rat)=(t:Rat)):(lo t b,hi t b)=nm q:=by
 refine Ov (Ca hb) (yI (by lia)) ?_;have h:=yJ t b;have hb':(b:Rat)≠0:=λz=>by have:=w5.mp z;lia
 have h2:((lo t b:Int):Rat)*(b:Rat)=(t:Rat)*((hi t b:Int):Rat):=by rw[<- aS,h,aS]
 rw[<- e] at h2;have h3:(q*((hi t b:Int):Rat) - ((lo t b:Int):Rat))*(b:Rat)=0:=by grind
 rcases JC.mp h3 with h4 | h4
 ·grind
 ·exact absurd h4 hb'
def Fr (M V:Nat) (q:Rat):Prop:=∃z:Int,q*(M:Rat)=(z:Rat)/\z.natAbs<=V*M
theorem Fr.mono (h:Fr M V q) (l:V<=V'):Fr M V' q:=by obtain ⟨z,e,b⟩:=h;exact ⟨z,e,ai b (az _ l)⟩
theorem Fr.scale (h:Fr M V q) (k:Nat):Fr (M*k) V q:=by
 obtain ⟨z,e,b⟩:=h;refine ⟨z*k,?_,?_⟩
 ·rw[zx,aS,<- e,aW,Rat.mul_assoc]
 ·rw[eC,cR,<- cx];exact az _ b
theorem Fr.scaleL (h:Fr M V q) (k:Nat):Fr (k*M) V q:=by rw[cv];exact h.scale k
theorem Fr.dvd (h:Fr M V q) (d:M∣N):Fr N V q:=by obtain ⟨k,rfl⟩:=d;exact h.scale k
theorem Fr.add (h:Fr M V p) (h':Fr M W q):Fr M (V+W) (p+q):=by
 obtain ⟨z,e,b⟩:=h;obtain ⟨z',e',b'⟩:=h';refine ⟨z+z',by rw[zz,<- e,<- e',Rat.add_mul],?_⟩;rw[Jv];have:=Int.natAbs_add_le z z'
 lia
theorem Fr.neg (h:Fr M V q):Fr M V (-q):=by
 obtain ⟨z,e,b⟩:=h;exact ⟨-z,by rw[cS,<- e,Rat.neg_mul],by rw[iQ];exact b⟩
theorem Fr.mul (h:Fr M V p) (h':Fr N W q):Fr (M*N) (V*W) (p*q):=by
 obtain ⟨z,e,b⟩:=h;obtain ⟨z',e',b'⟩:=h';refine ⟨z*z',?_,?_⟩
 ·rw[zx,aS,<- e,<- e'];grind
 ·rw[eC]
  calc z.natAbs*z'.natAbs<=(V*M)*(W*N):=aI b b'
   _=V*W*(M*N):=by rw[cx,Nat.mul_left_comm M,<- cx]
theorem Fr.zero:Fr M V 0:=⟨0,by simp,by simp⟩
theorem Fr.int {i:Int} (h:i.natAbs<=V):Fr M V (i:Rat):=⟨i*M,by rw[aS,aW],by rw[eC,cR];exact az _ h⟩
theorem Fr.den (h:Fr M V q):(q.den:Int)∣(M:Int):=by
 obtain ⟨z,e,b⟩:=h
 have h1:q.num*(M:Int)=z*(q.den:Int):=by
  apply dq.mp;rw[aS,aS,<- e,jX,aW,aW];grind
 have h2:(q.den:Int)∣q.num*(M:Int):=⟨z,by rw[h1,eU]⟩;exact oq (by rw[jz];exact BQ q) h2
theorem Fr.den_le (h:Fr M V q) (hM:0 < M):q.den<=M:=ia hM (kG.mp h.den)
theorem Fr.num_le (h:Fr M V q) (hM:0 < M):q.num.natAbs<=V*M:=by
 have hd:=h.den;obtain ⟨z,e,b⟩:=h;obtain ⟨k,hk⟩:=kG.mp hd;have hk0:k≠0:=λz=>by rw[z,Nat.mul_zero] at hk;lia
 have h1:z=q.num*(k:Int):=by
  apply dq.mp;rw[aS,<- e,jX,aW,hk,zx];grind
 rw[h1] at b;exact ai (l8 (by lia)) b
theorem Fr.own (q:Rat) (h:q.num.natAbs<=V):Fr q.den V q:=⟨q.num,(jX q).symm,ai h (dt _ q.den_pos)⟩
theorem Fr.sz (h:Fr M V q) (hM:0 < M) (h1:M<=2^k) (h2:V<=2^j):Sz (j+k+1) (nm q).1/\Sz (k+1) (nm q).2:=by
 constructor
 ·show q.num.natAbs < 2^(j+k+1)
  have h3:=h.num_le hM;have h4:V*M<=2^j*2^k:=aI h2 h1;rw[gH,bC];have:=Nat.two_pow_pos (j+k);rw[bC] at this
  lia
 ·show (q.den:Int).natAbs < 2^(k+1)
  have h3:=h.den_le hM;rw[cR,gH];have:=Nat.two_pow_pos k
  lia
theorem Fr.sum {M V:Nat}:∀{l:List Rat},(∀x∈l,Fr M V x)->Fr M (l.length*V) l.sum
 | [],_=>by simp;exact Fr.zero
 | x :: r,h=>by
  rw[List.sum_cons,bx,jw,k6];exact (h x (.head _)).add (Fr.sum λy hy=>h y (.tail _ hy))
def eL (xs ys:List Rat):Rat:=(List.zipWith (λx y=>x*y) xs ys).sum
theorem Fr.dot (h:∀x∈xs,Fr M V x) (h':∀y∈ys,Fr N W y):Fr (M*N) (xs.length*(V*W)) (eL xs ys):=by
 have q:=Fr.sum (M:=M*N) (V:=V*W) (l:=List.zipWith (λx y=>x*y) xs ys) λz hz=>by
  obtain ⟨i,hi,e⟩:=aQ hz;rw[oM] at e;rw[<- e];exact (h _ (aO _)).mul (h' _ (aO _))
 exact q.mono (az _ (by rw[df];lia))
theorem GI (xs ys:List Rat):eL xs ys=eL ys xs:=by
 unfold eL;rw[List.zipWith_comm];congr 2;funext a b;exact cF ..
theorem xx:∀{bs:List Int} {m M:Int},0 < m->m∣M->(∀b∈bs,0 < b/\b∣M)->vB bs m∣M
 | [],_,_,_,h,_=>h
 | b :: r,m,M,hm,h,hb=>by
  have b1:=hb b cp;refine xx (bs:=r) (tK hm b1.1) ?_ λc hc=>hb c (bN _ hc)
  have gp:0 < g m b:=yP (by lia);have e1:=yK m b;have e2:=vE m b;obtain ⟨u,hu⟩:=h;obtain ⟨v,hv⟩:=b1.2
  have h3:lo m b*u=hi m b*v:=by
   apply rE (show g m b≠0 by lia)
   calc lo m b*u*g m b=lo m b*g m b*u:=by rw[dn,eU u,<- dn]
    _=m*u:=by rw[e1]
    _=M:=hu.symm
    _=b*v:=hv
    _=hi m b*g m b*v:=by rw[e2]
    _=hi m b*v*g m b:=by rw[dn,eU (g m b),<- dn]
  have h4:hi m b∣lo m b*u:=⟨v,h3⟩;have h5:hi m b∣u:=oq (by rw[jz];exact yI (by lia)) h4;obtain ⟨w,hw⟩:=h5;refine ⟨w,?_⟩;show M=m*hi m b*w
  rw[hu,hw,dn]
theorem Cf (hb:0 < b) (d:a∣b) (h:Sz k b):Sz k a:=h.le (ia (by lia) (d4.mpr d))
end Nm
namespace Nm
def Dr (W:Nat) (x:Rat):Prop:=x.num.natAbs<=W/\x.den<=W
def td:List Nat->Nat
 | []=>1
 | a :: r=>a*td r
theorem vh:∀{l:List Nat},(∀a∈l,0 < a)->0 < td l
 | [],_=>Nat.one_pos
 | a :: r,h=>cw (h a (.head _)) (vh λb hb=>h b (.tail _ hb))
theorem vm:∀{l:List Nat} {a:Nat},a∈l->a∣td l
 | b :: r,a,h=>by
  rcases aE.mp h with rfl | h
  ·exact Nat.dvd_mul_right ..
  ·exact Nat.dvd_trans (vm h) (xg ..)
theorem yj {k:Nat}:∀{l:List Nat},(∀a∈l,a<=2^k)->td l<=2^(k*l.length)
 | [],_=>by simp [td]
 | a :: r,h=>by
  rw[bx,Nat.mul_succ,bC,cv (2^(k*r.length))];exact aI (h a (.head _)) (yj λb hb=>h b (.tail _ hb))
def GF (M V:Nat) (rows:LR9):Prop:=∀xs∈rows,∀x∈xs,Fr M V x
def Nq (c n i:Nat) (rows:LR9):Prop:=∃M,0 < M/\M<=2^(i*(c*n+2))/\GF M (2^(20+2*i)) rows
theorem M6:Nq c n 0 []:=⟨1,by decide,by simp,λ_ h=>nomatch h⟩
theorem M7 (c n i:Nat):(i+1)*(c*n+2)=i*(c*n+2)+(c*n+2):=jw ..
theorem KI (h:Nq c n i rows) (hl:xs.length=n) (hd:∀x∈xs,Dr (2^c) x) (hc:c<=20):Nq c n (i+1) (rows++[xs]):=by
 obtain ⟨M,h0,h1,h2⟩:=h
 have dp:0 < td (xs.map (·.den)):=vh λa ha=>by
  obtain ⟨x,_,rfl⟩:=ay.mp ha;exact x.den_pos
 have dl:td (xs.map (·.den))<=2^(c*n):=by
  have:=yj (k:=c) (l:=xs.map (·.den)) λa ha=>by
   obtain ⟨x,hx,rfl⟩:=ay.mp ha;exact (hd x hx).2
  rwa [ag,hl] at this
 refine ⟨M*td (xs.map (·.den)),cw h0 dp,?_,λys hy x hx=>?_⟩
 ·rw[M7,bC];exact aI h1 (ai dl (ao (by decide) (by lia)))
 ·rcases au.mp hy with hy | hy
  ·exact ((h2 ys hy x hx).scale _).mono (ao (by decide) (by lia))
  ·have e:ys=xs:=by simpa using hy
   subst e;have f:Fr x.den (2^c) x:=Fr.own x (hd x hx).1;have g:=(f.dvd (vm (ay.mpr ⟨x,hx,rfl⟩))).scaleL M;exact g.mono (ao (by decide) (by lia))
def bQ (rows:LR9) (w:Nat):LR9:=(List.range w).map λj=>rows.map λxs=>xs.getD j 0
def fK (one other:LR9) (w:Nat):LR9:=one.map λxs=>(bQ other w).map λys=>eL ys xs
theorem cW:(bQ rows w).length=w:=by simp [bQ]
theorem mE:∀ys∈bQ rows w,ys.length=rows.length:=λys hy=>by
 obtain ⟨j,_,rfl⟩:=ay.mp hy;exact ag ..
end Nm
namespace L2
open PySem PySem.Spec PyProof.Rows Nm
theorem cU.sqt {K:FG9} (u:cU b H H') (B:hZ H b) (h:kD K H a xs):kD K H' a xs:=by
 rcases h with (h | ⟨o,h⟩) | h
 ·exact .inl (.inl (u.tup B h))
 ·exact .inl (.inr ⟨o,u.other (λz=>by obtain ⟨_,_,_,_,_,e,_⟩:=B;rw[z,e] at h;cases h) h⟩)
 ·exact .inr h
theorem HJ {K:FG9} (h:kD K H a xs) (hl:H l=some (.lst ys)):kD K (upd H l o) a xs:=by
 rcases h with (h | ⟨o,h⟩) | h
 ·exact .inl (.inl (by rw[br λz=>by rw[z,hl] at h;cases h];exact h))
 ·exact .inl (.inr ⟨o,by rw[br λz=>by rw[z,hl] at h;cases h];exact h⟩)
 ·exact .inr h
def cb (K:FG9) (H:Hp) (q:Rat) (x:V):Prop:=DJ K H x (nm q)
section
variable {K:FG9} {H H':Hp} {q:Rat} {x:V} {b l p:Addr} {qs:List Rat}
theorem cb.same (h:cb K H q x) (e:aF H H'):cb K H' q x:=e.num h
theorem cb.upto (h:cb K H q x) (u:cU b H H') (B:hZ H b):cb K H' q x:=by obtain ⟨p,e,s⟩:=h;exact ⟨p,e,u.sqt B s⟩
theorem cb.updL (h:cb K H q x) (hl:H l=some (.lst ys)):cb K (upd H l o) q x:=by obtain ⟨p,e,s⟩:=h;exact ⟨p,e,HJ s hl⟩
theorem cb.mk (h:H r=some (.tup [.int a,.int c])) (e:(a,c)=nm q):cb K H q (.ref r):=⟨r,rfl,by rw[<- e];exact kD.of h⟩
def dC (K:FG9) (H:Hp) (p:Addr) (qs:List Rat):Prop:=∃xs,H p=some (.lst xs)/\Paired (cb K H) qs xs
theorem dC.same (h:dC K H p qs) (e:aF H H'):dC K H' p qs:=by obtain ⟨xs,g,r⟩:=h;exact ⟨xs,e _ _ g,Paired.imp' (λ_ _ z=>z.same e) r⟩
theorem dC.upto (h:dC K H p qs) (u:cU b H H') (B:hZ H b) (n:p≠b):dC K H' p qs:=by obtain ⟨xs,g,r⟩:=h;exact ⟨xs,u.other n g,Paired.imp' (λ_ _ z=>z.upto u B) r⟩
theorem dC.updL (h:dC K H p qs) (hl:H l=some (.lst ys)) (n:p≠l):dC K (upd H l o) p qs:=by obtain ⟨xs,g,r⟩:=h;exact ⟨xs,by rw[br n];exact g,Paired.imp' (λ_ _ z=>z.updL hl) r⟩
theorem pM {α β γ:Type} {F:α->β->Prop} {f:γ->α}:∀{l:List γ} {l2:List β},Paired (λc x=>F (f c) x) l l2->Paired F (l.map f) l2
 | _,_,.nil=>.nil
 | _,_,.cons r t=>.cons r (pM t)
theorem dC.rowK (h:dC K H p qs):Ct K H p (qs.map nm):=by obtain ⟨xs,g,r⟩:=h;exact ⟨xs,g,pM (F:=λn x=>DJ K H x n) r⟩
def cI (K:FG9) (H0 H:Hp) (qs:List Rat) (x:V):Prop:=∃q,x=V.ref q/\H0 q=none/\dC K H q qs
def bB (K:FG9) (H0 H:Hp) (p:Addr) (rows:LR9):Prop:=∃xs,H p=some (.lst xs)/\Paired (cI K H0 H) rows xs/\V.ref p∉xs
theorem fZ {rows:LR9} (h:∃H2,H2 p=none/\Paired (cI K H0 H2) rows ys):V.ref p∉ys:=λhm=>by
 obtain ⟨H2,e,pr⟩:=h;obtain ⟨qs,_,q,z,_,xs,g,_⟩:=cP pr hm;cases z;rw[e] at g;cases g
variable {H0:Hp} {rows:LR9}
theorem cI.same (h:cI K H0 H qs x) (e:aF H H'):cI K H0 H' qs x:=by obtain ⟨q,a,b,c⟩:=h;exact ⟨q,a,b,c.same e⟩
theorem cI.upto (h:cI K H0 H qs x) (u:cU b H H') (B:hZ H b) (nb:H0 b≠none):cI K H0 H' qs x:=by obtain ⟨q,a,c,d⟩:=h;exact ⟨q,a,c,d.upto u B λz=>nb (by rw[<- z];exact c)⟩
theorem cI.weak (h:cI K H0 H qs x) (e:aF H1 H0):cI K H1 H qs x:=by obtain ⟨q,a,b,c⟩:=h;exact ⟨q,a,e.none b,c⟩
theorem bB.same (h:bB K H0 H p rows) (e:aF H H'):bB K H0 H' p rows:=by obtain ⟨xs,g,r,n⟩:=h;exact ⟨xs,e _ _ g,Paired.imp' (λ_ _ z=>z.same e) r,n⟩
theorem bB.upto (h:bB K H0 H p rows) (u:cU b H H') (B:hZ H b) (n:p≠b) (nb:H0 b≠none):bB K H0 H' p rows:=by obtain ⟨xs,g,r,nn⟩:=h;exact ⟨xs,u.other n g,Paired.imp' (λ_ _ z=>z.upto u B nb) r,nn⟩
theorem bB.weak (h:bB K H0 H p rows) (e:aF H1 H0):bB K H1 H p rows:=by obtain ⟨xs,g,r,n⟩:=h;exact ⟨xs,g,Paired.imp' (λ_ _ z=>z.weak e) r,n⟩
theorem bB.gridK (h:bB K H0 H p rows):LU K H p (rows.map (List.map nm)):=by obtain ⟨xs,g,r,_⟩:=h;exact ⟨xs,g,pM (F:=λns x=>∃q,x=V.ref q/\Ct K H q ns) (Paired.imp' (λ_ _ ⟨q,a,_,c⟩=>⟨q,a,c.rowK⟩) r)⟩
end
def Fn:Kind Rat:=Ow.via nm (λ_ _ e=>MO e) (λK H x q=>cb K H q x) id
def IJ:Kind (List Rat):=IK Fn
def BW:Kind (LR9):=IK IJ
theorem dC.kind {K:FG9} (h:dC K H p qs):IJ.R K H (.ref p) qs:=by obtain ⟨xs,g,q⟩:=h;exact ⟨p,xs,rfl,bO.of g,q⟩
theorem bB.kind {K:FG9} (h:bB K H0 H p rows):BW.R K H (.ref p) rows:=by obtain ⟨xs,g,q,_⟩:=h;exact ⟨p,xs,rfl,bO.of g,Paired.imp' (λ_ _ ⟨q,a,_,c⟩=>by rw[a];exact c.kind) q⟩
def mU (x:Rat):Prop:=Sz 4000 (nm x).1/\Sz 4000 (nm x).2
def Fits (l:List Rat):Prop:=∃M V:Nat,0 < M/\M<=2^900/\V<=2^900/\∀x∈l,Fr M V x
theorem Fits.szn (h:Fits l) (hx:x∈l):mU x:=by
 obtain ⟨M,V,h0,h1,h2,h3⟩:=h;obtain ⟨a,b⟩:=(h3 x hx).sz h0 h1 h2;exact ⟨a.mono (by decide),b.mono (by decide)⟩
theorem Fits.ok (h:Fits l) (hx:x∈l):uF (nm x):=⟨fO x,BQ x,(h.szn hx).1.mono (by decide),(h.szn hx).2.mono (by decide)⟩
theorem Ew {M V:Nat} (h0:0 < M) (h1:M<=2^1800) (h2:V<=2^1810) (h:Fr M V x):mU x:=by
 obtain ⟨a,b⟩:=h.sz h0 h1 h2;exact ⟨a.mono (by decide),b.mono (by decide)⟩
theorem A8 (h:mU x):uF (nm x):=⟨fO x,BQ x,h.1.mono (by decide),h.2.mono (by decide)⟩
inductive m3 (K:FG9) (f:Rat->Rat->Rat) (vs:List V) (H:Hp) (Q:VK) (E9:XK):Prop
 | mk (u v:V) (x y:Rat):vs=[u,v]->cb K H x u->cb K H y v->mU x->mU y->(∀r H',aF H H'->cb K H' (f x y) (.ref r)->Q (.ref r) H')->m3 K f vs H Q E9
section
variable {K:FG9} {vs:List V} {H:Hp} {Q:VK} {E:XK}
theorem Ee (hf:∀x y:Rat,(f x y)*(((nm x).2*(nm y).2:Int):Rat)=((F (nm x).1 (nm x).2 (nm y).1 (nm y).2:Int):Rat)) (h:m3 K f vs H Q E):E3 K F vs H Q E:=by
 obtain ⟨u,v,x,y,rfl,⟨p,rfl,hp⟩,⟨q,rfl,hq⟩,⟨s1,s2⟩,⟨s3,s4⟩,k⟩:=h;refine ⟨p,q,_,_,_,_,rfl,hp,hq,fO x,fO y,s1,s2,s3,s4,λr H' s g=>k r H' s (cb.mk g ?_)⟩;exact oi (gE (fO x) (fO y)) (hf x y)
theorem nO (x:Rat):(((nm x).1:Int):Rat)=x*(((nm x).2:Int):Rat):=by
 show (x.num:Rat)=x*(((x.den:Nat):Int):Rat)
 rw[jX,aW]
theorem FK (h:m3 K (λx y=>x+y) vs H Q E):E3 K LI vs H Q E:=Ee (λx y=>by
 unfold LI;rw[zz,aS,aS,aS,nO,nO];grind) h
theorem xp (h:m3 K (λx y=>x - y) vs H Q E):E3 K Jh vs H Q E:=Ee (λx y=>by
 unfold Jh;rw[zy,aS,aS,aS,nO,nO];grind) h
theorem Fh (h:m3 K (λx y=>x*y) vs H Q E):E3 K Jg vs H Q E:=Ee (λx y=>by
 unfold Jg;rw[aS,aS,nO,nO];grind) h
end
def EC (M:Int) (ns:List (Int×Int)):Prop:=0 < M/\Sz 4400 M/\∀n∈ns,0 < n.2/\n.2∣M/\Sz 4400 n.1
theorem EC.bot (h:EC M ns):0 < fI ns/\Sz 4400 (fI ns):=by
 have hb:∀b∈ns.map (·.2),0 < b/\b∣M:=λb hb=>by
  obtain ⟨n,hn,rfl⟩:=ay.mp hb;exact ⟨(h.2.2 n hn).1,(h.2.2 n hn).2.1⟩
 exact ⟨yM (by decide) λb q=>(hb b q).1,Cf h.1 (xx (by decide) (Int.one_dvd _) hb) h.2.1⟩
inductive HK (K:FG9) (vs:List V) (H:Hp) (Q:VK) (E9:XK):Prop
 | mk (p:Addr) (bs:List Int) (M:Int):vs=[.ref p]->bO K H p (bs.map V.int)->0 < M->Sz 4400 M->((∀b∈bs,0 < b/\b∣M))->Q (.int (vB bs 1)) H->HK K vs H Q E9
inductive HL (K:FG9) (vs:List V) (H:Hp) (Q:VK) (E9:XK):Prop
 | mk (p:Addr) (ns:List (Int×Int)) (M:Int):vs=[.ref p]->Ct K H p ns->ns.length<=1000->EC M ns->(∀H',aF H H'->Q (.int (fI ns)) H')->HL K vs H Q E9
inductive CN (K:FG9) (vs:List V) (H:Hp) (Q:VK) (E9:XK):Prop
 | mk (p:Addr) (ns:List (Int×Int)) (M:Int) (B:Int):vs=[.ref p,.int B]->Ct K H p ns->ns.length<=1000->EC M ns->0 < B->Sz 4400 B->(∀r H',H r=none->aF H H'->H' r=some (.lst ((eS ns B).map V.int))->Q (.ref r) H')->CN K vs H Q E9
theorem CH (h:EC M ns) (hB:0 < B) (sB:Sz 4400 B) (ht:t∈eS ns B):Sz 8800 t:=by
 obtain ⟨n,hn,rfl⟩:=ay.mp ht;have hp:=h.2.2 n hn
 have sq:Sz 4400 (B / n.2):=sB.le (by
  rw[Nw (by lia)];exact Nat.div_le_self ..)
 exact (hp.2.2.mul sq).mono (by lia)
theorem oR (h:(nm x).2∣B):(((nm x).1*(B / (nm x).2):Int):Rat)=x*(B:Rat):=by
 obtain ⟨k,rfl⟩:=h;have hp:=fO x;rw[Int.mul_ediv_cancel_left _ (by lia),aS,aS,nO];grind
theorem Dw {B C:Int}:∀{xs ys:List Rat},(∀x∈xs,(nm x).2∣B)->(∀y∈ys,(nm y).2∣C)->(((List.zipWith (λx y=>x*y) (eS (xs.map nm) B) (eS (ys.map nm) C)).sum:Int):Rat)=eL xs ys*((B:Rat)*(C:Rat))
 | [],ys,_,_=>by simp [eS,eL]
 | x :: xs,[],_,_=>by simp [eS,eL]
 | x :: xs,y :: ys,h1,h2=>by
  have ih:=Dw (B:=B) (C:=C) (xs:=xs) (ys:=ys) (λz hz=>h1 z (.tail _ hz)) (λz hz=>h2 z (.tail _ hz));have e1:=oR (h1 x (.head _));have e2:=oR (h2 y (.head _));have e3:(List.zipWith (λx y=>x*y) (eS ((x :: xs).map nm) B) (eS ((y :: ys).map nm) C)).sum=((nm x).1*(B / (nm x).2))*((nm y).1*(C / (nm y).2))+(List.zipWith (λx y=>x*y) (eS (xs.map nm) B) (eS (ys.map nm) C)).sum:=rfl;have e4:eL (x :: xs) (y :: ys)=x*y+eL xs ys:=rfl;rw[e3,e4,zz,aS,ih,e1,e2];grind
theorem KR (h1:0 < fI (xs.map nm)) (h2:0 < fI (ys.map nm)):(lo (Jm (xs.map nm) (ys.map nm)) (fI (xs.map nm)*fI (ys.map nm)),hi (Jm (xs.map nm) (ys.map nm)) (fI (xs.map nm)*fI (ys.map nm)))=nm (eL xs ys):=by
 refine oi (gE h1 h2) ?_;unfold Jm;rw[Dw (λx hx=>mQ (ay.mpr ⟨x,hx,rfl⟩)) (λx hx=>mQ (ay.mpr ⟨x,hx,rfl⟩)),aS]
inductive CM (K:FG9) (vs:List V) (H:Hp) (Q:VK) (E9:XK):Prop
 | mk (p:Addr) (w:Nat) (H0:Hp) (rows:LR9):vs=[.ref p,.int w]->bB K H0 H p rows->rows.length<=1000->w<=1000->(∀xs∈rows,xs.length=w)->(∀r H',H r=none->aF H H'->bB K H H' r (bQ rows w)->Q (.ref r) H')->CM K vs H Q E9
def iN (m:Nat) (a:Int):List Rat:=(List.range m).map λ(i:Nat)=>if ((i:Nat):Int)=a then 1 else 0
def dg (m:Nat):LR9:=(List.range m).map λ(i:Nat)=>iN m i
inductive CL (K:FG9) (vs:List V) (H:Hp) (Q:VK) (E9:XK):Prop
 | mk (m:Nat) (a:Int):vs=[.int m,.int a]->m<=1000->(∀r H',H r=none->aF H H'->dC K H' r (iN m a)->Q (.ref r) H')->CL K vs H Q E9
def F1 (K:FG9):Sp:=λvs H Q _=>∃m:Nat,vs=[.int m]/\m<=1000/\∀r H',H r=none->aF H H'->bB K H H' r (dg m)->Q (.ref r) H'
inductive xP (K:FG9) (vs:List V) (H:Hp) (Q:VK) (E9:XK):Prop
 | mk (b:Addr) (w:Nat):vs=[.ref b,.int w]->hZ H b->1<=w->w<=1000000->(∀r x H',Dr (max w 6) x->cb K H' x (.ref r)->hZ H' b->cU b H H'->Q (.ref r) H')->xP K vs H Q E9
inductive CV (K:FG9) (vs:List V) (H:Hp) (Q:VK) (E9:XK):Prop
 | mk (b:Addr) (m w:Nat):vs=[.ref b,.int m,.int w]->hZ H b->m<=1000->1<=w->w<=1000000->(∀r xs H',H r=none->dC K H' r xs->xs.length=m->(∀x∈xs,Dr (max w 6) x)->hZ H' b->cU b H H'->Q (.ref r) H')->CV K vs H Q E9
inductive CO (K:FG9) (vs:List V) (H:Hp) (Q:VK) (E9:XK):Prop
 | mk (p q:Addr) (xs ys:List Rat):vs=[.ref p,.ref q]->dC K H p xs->dC K H q ys->ys.length=xs.length->xs.length<=1000->(∀x∈xs,mU x)->(∀y∈ys,mU y)->(∀r H',H r=none->aF H H'->dC K H' r (List.zipWith (λx y=>x+y) xs ys)->Q (.ref r) H')->CO K vs H Q E9
inductive HM (K:FG9) (vs:List V) (H:Hp) (Q:VK) (E9:XK):Prop
 | mk (u:V) (q:Addr) (c:Rat) (ys:List Rat):vs=[u,.ref q]->cb K H c u->mU c->dC K H q ys->ys.length<=1000->(∀y∈ys,mU y)->(∀r H',H r=none->aF H H'->dC K H' r (ys.map λy=>c*y)->Q (.ref r) H')->HM K vs H Q E9
inductive xV (K:FG9) (vs:List V) (H:Hp) (Q:VK) (E9:XK):Prop
 | mk (p:Addr) (H0:Hp) (rows:LR9):vs=[.ref p]->bB K H0 H p rows->rows.length<=1000->(∀xs∈rows,xs.length<=1000)->(∀r H',H r=none->aF H H'->bB K H H' r rows->Q (.ref r) H')->xV K vs H Q E9
section
variable {K:FG9} {a:Addr} {xs:List V} {g:TG} {tf:TT} {te:TE} {Q:VK} {σ₀:St} {H:Hp} {α β:Type}
theorem c8 {F:Hp->α->V->Prop} (G:Hp->β->V->Prop) (f:α->β) (hx:H a=some (.lst xs)) (pf:Paired (F H) as xs) (hl:as.length<=1000)
  (hF:∀{H H' c x},F H c x->aF H H'->F H' c x) (hG:∀{H H' c x},G H c x->aF H H'->G H' c x)
  (hs:∀(i:Nat) c x H' NY NN,as[i]?=some c->aF H H'->F H' c x->(∀y H2,aF H' H2->G H2 (f c) y->NY y H2)->oS σ₀ g tf te x H' NY NN)
  (hd:∀ys H' p,H p=none->aF H H'->H' p=some (.lst ys)->Paired (G H') (as.map f) ys->(∃H2,H2 p=none/\Paired (G H2) (as.map f) ys)->Q (.ref p) H'):p4 (K5 K a) σ₀ g tf te Q H:=by
 have lx:=pf.length;refine dd (K:=K) (xs:=xs) (λi ys H'=>aF H H'/\Paired (G H') ((as.take i).map f) ys) (aN (bc (by lia))) ⟨aF.refl _,.nil⟩ (λi ys H' _ ⟨s,_⟩=>bO.of (s _ _ hx)) ?_ ?_
 ·rintro i x ys H' hx' hlen ⟨s,pr⟩;obtain ⟨c,ec,hc⟩:=cJ pf hx';refine hs i c x H' _ _ ec s (hF hc s) λy H2 s2 gy=>⟨s.trans s2,?_⟩
  rw[take_snoc ec,bK];exact bX (Paired.imp' (λ_ _ z=>hG z s2) pr) (.cons gy .nil)
 ·rintro ys H' hy ⟨s,pr⟩ p hp;rw[aG (by lia)] at pr;exact hd ys _ p (s.none hp) (s.trans (aF.new hp)) aH (Paired.imp' (λ_ _ z=>hG z (aF.new hp)) pr) ⟨H',hp,pr⟩
theorem fb (G:Hp->β->V->Prop) (f:Nat->β) (hl:n<=1000) (hG:∀{H H' c x},G H c x->aF H H'->G H' c x)
  (hs:∀(i:Nat) H' NY NN,i < n->aF H H'->(∀y H2,aF H' H2->G H2 (f i) y->NY y H2)->oS σ₀ g tf te (.int i) H' NY NN)
  (hd:∀ys H' p,H p=none->aF H H'->H' p=some (.lst ys)->Paired (G H') ((List.range n).map f) ys->(∃H2,H2 p=none/\Paired (G H2) ((List.range n).map f) ys)->Q (.ref p) H'):p4 (DN 0 n) σ₀ g tf te Q H:=by
 refine gR (λi ys H'=>aF H H'/\Paired (G H') ((List.range i).map f) ys) (aN (bc (by lia))) ⟨aF.refl _,.nil⟩ ?_ ?_
 ·rintro i ys H' hi hlen ⟨s,pr⟩;rw[jy];refine hs i H' _ _ hi s λy H2 s2 gy=>⟨s.trans s2,?_⟩
  rw[oP,bK];exact bX (Paired.imp' (λ_ _ z=>hG z s2) pr) (.cons gy .nil)
 ·rintro ys H' hy ⟨s,pr⟩ p hp;exact hd ys _ p (s.none hp) (s.trans (aF.new hp)) aH (Paired.imp' (λ_ _ z=>hG z (aF.new hp)) pr) ⟨H',hp,pr⟩
theorem AB (G:Hp->β->V->Prop) (C:β->Prop) (hB:hZ H b) (hl:n<=1000) (hG:∀{H' H'' c x},G H' c x->cU b H' H''->hZ H' b->G H'' c x)
  (hs:∀(i:Nat) H' NY NN,i < n->cU b H H'->hZ H' b->(∀y c H2,cU b H' H2->hZ H2 b->C c->G H2 c y->NY y H2)->oS σ₀ g tf te (.int i) H' NY NN)
  (hd:∀ys cs H' p,H p=none->cU b H H'->hZ H' b->H' p=some (.lst ys)->cs.length=n->(∀c∈cs,C c)->Paired (G H') cs ys->(∃H2,H2 p=none/\Paired (G H2) cs ys)->Q (.ref p) H'):p4 (DN 0 n) σ₀ g tf te Q H:=by
 refine gR (λi ys H'=>cU b H H'/\hZ H' b/\∃cs,cs.length=i/\(∀c∈cs,C c)/\Paired (G H') cs ys) (aN (bc (by lia))) ⟨(aF.refl _).upto,hB,[],rfl,(λ_ z=>nomatch z),.nil⟩ ?_ ?_
 ·rintro i ys H' hi hlen ⟨u,B,cs,lc,hc,pr⟩;rw[jy];refine hs i H' _ _ hi u B λy c H2 u2 B2 cc gy=>⟨u.trans u2,B2,cs++[c],by simp [lc],Co hc cc,bX (Paired.imp' (λ_ _ z=>hG z u2 B) pr) (.cons gy .nil)⟩
 ·rintro ys H' hy ⟨u,B,cs,lc,hc,pr⟩ p hp;have s:aF H' (upd H' p (.lst ys)):=aF.new hp;exact hd ys cs _ p (u.none B hp) (u.same s) (B.same s) aH lc hc (Paired.imp' (λ_ _ z=>hG z s.upto B) pr) ⟨H',hp,pr⟩
end
section
variable {X:Cx}
theorem eP {g:TG} {tb:TS} {D:Ends} (Pv:Nat->St->Hp->Prop) (h0:Pv 0 σ H)
  (hs:∀(i:Nat) σ H,i < n->Pv i σ H->g (.int i) σ H λσ2 H2=>tb { D with nx:=Pv (i+1),ct:=Pv (i+1),bk:=D.nx } σ2 H2) (hd:∀σ H,Pv n σ H->D.nx σ H) :
  ∃W:Nat->Nat->St->Hp->Prop,(∃m,W 0 m σ H)/\∀i m σ H,W i m σ H →
   ((DN 0 n).stop i H/\D.nx σ H)\/((DN 0 n).go i H/\∃N:St->Hp->Prop,(∀σ' H',N σ' H'->∃m',m' < m/\W (i+1) m' σ' H')/\∀x H',(DN 0 n).yld i H x H'->g x σ H' λσ2 H2=>tb { D with nx:=N,ct:=N,bk:=D.nx } σ2 H2) :=
 Am (lo:=0) Pv h0 (λi σ H hi p=>by rw[jy];exact hs i σ H hi p) hd
theorem j9:p5 X (.type "int") (λxs H Q=>∃b:Bool,xs=[.bl b]/\Q (.int (if b=true then 1 else 0)) H):=by
 intro pins s σ H xs us Q I r h;obtain ⟨b,rfl,q⟩:=h;obtain ⟨u,rfl,ru⟩:=vals1 r;cases ru;exact call_int_bool ⟨.int _,H,I.tok _,⟨_,rfl⟩,q⟩
theorem E8 {st:Stmt}:PS X st (λ_ _ _=>False):=λ_ _ _ _ _ _ h=>h.elim
end
theorem IF {t b:Int} (hb:0 < b) (h1:t.natAbs<=W) (h2:b.natAbs<=W):∃q:Rat,(lo t b,hi t b)=nm q/\Dr W q/\q*(b:Rat)=(t:Rat):=by
 have hb':(b:Rat)≠0:=λz=>by have:=w5.mp z;lia
 have e:(t:Rat) / (b:Rat)*(b:Rat)=t:=Rat.div_mul_cancel hb';have h:=oi hb e;refine ⟨_,h,⟨?_,?_⟩,e⟩
 ·have:=congrArg Prod.fst h;have z:=lo_le (t:=t) (b:=b) (by lia);show ((nm ((t:Rat) / (b:Rat))).1).natAbs<=W
  rw[<- this];exact ai z h1
 ·have:=congrArg Prod.snd h;have z:=LF (t:=t) (b:=b) (by lia);have hd:(((t:Rat) / (b:Rat)).den:Int)=hi t b:=this.symm;have hp:=Ca (t:=t) hb
  lia
theorem Dq {K:FG9} (h:Paired (cb K H) qs xs) (hj:j < qs.length):∃v,Ez xs (j:Int)=some v/\cb K H (qs.getD j 0) v:=by
 have hl:=h.length;refine ⟨xs[j]'(by lia),dS (by simp),?_⟩;have:=iX h (i:=j) hj (by lia);rwa [aa,af hj]
theorem Ap {xs ys:List Rat} (h1:i < xs.length) (h2:i < ys.length):eL (xs.take (i+1)) (ys.take (i+1))=eL (xs.take i) (ys.take i)+xs.getD i 0*ys.getD i 0:=by
 have e1:xs[i]?=some (xs.getD i 0):=by rw[aa,af h1];rfl
 have e2:ys[i]?=some (ys.getD i 0):=by rw[aa,af h2];rfl
 unfold eL;rw[take_snoc e1,take_snoc e2,List.zipWith_append (by simp;lia),List.sum_append];simp [qh]
theorem getD_mem {xs:List Rat} (h:i < xs.length):xs.getD i 0∈xs:=by
 rw[aa,af h];exact aO h
theorem FX {xs ys:List Rat} (h:ys.length=xs.length):List.zipWith (λx y=>x+y) xs ys=(List.range xs.length).map λi=>xs.getD i 0+ys.getD i 0:=by
 apply FV;intro i;rw[dZ,aD];by_cases hi:i < xs.length
 ·rw[cT hi,af hi,af (show i < ys.length by lia)];simp [aa,af hi,af (show i < ys.length by lia)]
 ·rw[aT (show (List.range xs.length).length<=i by simp;lia),aT (show xs.length<=i by lia)];rfl
theorem cI.updL {K:FG9} (h:cI K H0 H qs x) (hl:H l=some (.lst ys)) (nl:H0 l≠none):cI K H0 (upd H l o) qs x:=by obtain ⟨q,a,b,c⟩:=h;exact ⟨q,a,b,c.updL hl λz=>nl (by rw[<- z];exact b)⟩
theorem hZ.at (B:hZ H b):H b≠none:=by obtain ⟨_,_,_,_,_,e,_⟩:=B;rw[e];simp
theorem Inner.at (B:hZ H b) (i:Inner H b q):H q≠none:=by
 obtain ⟨q',i',xs,e⟩:=B.inner;rw[<- Inner.inj i' i,e];simp
theorem fo {F:α->β->Prop} {l1:List α} {l2:List β} (h:Paired F l1 l2) (hi:i < l1.length):∃x y,l1[i]?=some x/\l2[i]?=some y/\x∈l1/\F x y:=by
 have hl:=h.length;exact ⟨l1[i],l2[i]'(by lia),by simp,by simp,aO _,iX h hi (by lia)⟩
section
variable {α β:Type} [DecidableEq α] [DecidableEq β] (k1:Kind α) (k2:Kind β)
theorem uM {X:Cx} {pins:List (Addr×Obj)} {σ:St} {H:Hp} {s:Shared} {A:Around} (I:Inv X pins σ H s) (h1:A.units+k1.d < cLine) (h2:A.units+k2.d < cLine) {x y z w:V} {us ws:List Value} {a b:α×β}
  (rx:cC [x,y] us) (ry:cC [z,w] ws) (a1:k1.R X.K H x a.1) (a2:k2.R X.K H y a.2) (b1:k1.R X.K H z b.1) (b2:k2.R X.K H w b.2) :
  ∀j (h1:j < us.toArray.size) (h2:j < ws.toArray.size),SeqAt.EqAt A s us.toArray[j] ws.toArray[j] (if j=0 then decide (a.1=b.1) else decide (a.2=b.2)):=λj l1 l2=>by
 obtain ⟨u1,u2,rfl,r1,r2⟩:=vals2 rx;obtain ⟨w1,w2,rfl,q1,q2⟩:=vals2 ry;have hj:j < 2:=by simpa using l1
 rcases bP j 1 with h | h
 ·have e:j=0:=by lia
  subst e;exact k1.eq (A:=A) I r1 q1 a1 b1 h1
 ·have e:j=1:=by lia
  subst e;exact k2.eq (A:=A) I r2 q2 a2 b2 h2
theorem A5 {a b:α×β}:(List.range 2).all (λj=>if j=0 then decide (a.1=b.1) else decide (a.2=b.2))=decide (a=b):=by
 have e:List.range 2=[0,1]:=rfl;rw[e];simp only[NC,List.all_nil,Bool.and_true,if_true,Nat.one_ne_zero,if_false];rw[<- Bool.decide_and];exact decide_eq_decide.mpr ⟨λ⟨h1,h2⟩=>Prod.ext h1 h2,λh=>by rw[h];exact ⟨rfl,rfl⟩⟩
def Lz:Kind (α×β) where
 R:=λK H x a=>∃p u v,x=.ref p/\kD K H p [u,v]/\k1.R K H u a.1/\k2.R K H v a.2
 d:=max k1.d k2.d+1
 inj:=λ{X pins σ H s x a b} I h1 h2=>by
  obtain ⟨p,u,v,rfl,hp,a1,a2⟩:=h1;obtain ⟨q,u',v',e,hq,b1,b2⟩:=h2;cases e;have e:=I.tuple_inj hp hq;cases e;exact Prod.ext (k1.inj I a1 b1) (k2.inj I a2 b2)
 rc:=λ{X pins σ H s x y v u a b A} I rx ry h1 h2 hA=>by
  obtain ⟨p,x1,x2,rfl,hp,a1,a2⟩:=h1;obtain ⟨q,y1,y2,rfl,hq,b1,b2⟩:=h2;cases rx;cases ry;obtain ⟨us,r1,t1,_⟩:=I.tuple hp;obtain ⟨ws,r2,t2,_⟩:=I.tuple hq;have l1:=r1.length;have l2:=r2.length;have z:=SeqAt.RcAt.tuples (A:=A) (e:=λj=>if j=0 then decide (a.1=b.1) else decide (a.2=b.2)) (show s.heap.IsTuple p us.toArray from t1) (show s.heap.IsTuple q ws.toArray from t2) (by lia) (uM k1 k2 (A:=A.in1) I (by show A.units+1+k1.d < cLine;lia) (by show A.units+1+k2.d < cLine;lia) r1 r2 a1 a2 b1 b2);have e1:us.toArray.size=2:=by rw[aL,<- l1];rfl
  have e2:ws.toArray.size=2:=by rw[aL,<- l2];rfl
  rw[e1,e2,Nat.min_self,A5] at z;simpa using z
 ne:=λ{X pins σ H s x y v u a b A} I rx ry h1 h2 hA=>by
  obtain ⟨p,x1,x2,rfl,hp,a1,a2⟩:=h1;obtain ⟨q,y1,y2,rfl,hq,b1,b2⟩:=h2;cases rx;cases ry;obtain ⟨us,r1,t1,_⟩:=I.tuple hp;obtain ⟨ws,r2,t2,_⟩:=I.tuple hq;have l1:=r1.length;have l2:=r2.length;have z:=SeqAt.RcNeAt.tuples (A:=A) (e:=λj=>if j=0 then decide (a.1=b.1) else decide (a.2=b.2)) (show s.heap.IsTuple p us.toArray from t1) (show s.heap.IsTuple q ws.toArray from t2) (by lia) (uM k1 k2 (A:=A.in1) I (by show A.units+1+k1.d < cLine;lia) (by show A.units+1+k2.d < cLine;lia) r1 r2 a1 a2 b1 b2);have e1:us.toArray.size=2:=by rw[aL,<- l1];rfl
  have e2:ws.toArray.size=2:=by rw[aL,<- l2];rfl
  rw[e1,e2,Nat.min_self,A5] at z;simpa using z
 eq:=λ{X pins σ H s x y v u a b A} I rx ry h1 h2 hA=>by
  obtain ⟨p,x1,x2,rfl,hp,a1,a2⟩:=h1;obtain ⟨q,y1,y2,rfl,hq,b1,b2⟩:=h2;cases rx;cases ry;by_cases e:p=q
  ·subst e;have e:=I.tuple_inj hp hq;cases e;have e2:a=b:=Prod.ext (k1.inj I a1 b1) (k2.inj I a2 b2);rw[decide_eq_true e2];exact SeqAt.EqAt.same _
  ·obtain ⟨us,r1,t1,_⟩:=I.tuple hp;obtain ⟨ws,r2,t2,_⟩:=I.tuple hq;have l1:=r1.length;have l2:=r2.length;have z:=SeqAt.RcAt.tuples (A:=A) (e:=λj=>if j=0 then decide (a.1=b.1) else decide (a.2=b.2)) (show s.heap.IsTuple p us.toArray from t1) (show s.heap.IsTuple q ws.toArray from t2) (by lia) (uM k1 k2 (A:=A.in1) I (by show A.units+1+k1.d < cLine;lia) (by show A.units+1+k2.d < cLine;lia) r1 r2 a1 a2 b1 b2);have e1:us.toArray.size=2:=by rw[aL,<- l1];rfl
   have e2:ws.toArray.size=2:=by rw[aL,<- l2];rfl
   rw[e1,e2,Nat.min_self,A5] at z;exact .of_refs e (by simpa using z)
end
theorem FI (h1:-(2^64) < i) (h2:i < 2^64):fh i j:=.inl (.inl ⟨h1,h2⟩)
theorem KS (h1:-(2^64) < j) (h2:j < 2^64):fh i j:=.inl (.inr ⟨h1,h2⟩)
def Nn (K : FG9) (l : Addr) : It :=
  ⟨λi H => ∃ xs x, bO K H l xs /\ xs[i]? = some x,
   λi H v H' => ∃ p x, v = .ref p /\ H p = none /\ H' = upd H p (.tup [.int i, x]) /\ ∀ xs, bO K H l xs → xs[i]? = some x,
   λi H => ∃ xs, bO K H l xs /\ xs.length ≤ i⟩
def tnE (e it l:Addr) (i:Nat) (h:Heap):Prop:=(∃old,IsEnum h e it i old)/\h.IsListIter it l i
theorem FZ {P:Program} {w:World} {K:FG9} {elts:List Expr} {kk:Nat} {tpos:Pos} (e it l:Addr) (hei:e≠it):Turn P w K (.Tuple elts kk tpos) (Nn K l) [e,it] e (tnE e it l) where
 mem:=by simp
 obj:=λi h st b hb=>by
  obtain ⟨⟨old,he⟩,⟨o1,g1,c1,d1⟩⟩:=st;simp only[aE,aV,or_false] at hb;rcases hb with rfl | rfl
  ·exact ⟨_,he,λv q=>nomatch q⟩
  ·exact ⟨o1,g1,λv q=>by rw[d1] at q;cases q⟩
 keep:=λi h h' st k=>by
  obtain ⟨⟨old,he⟩,h1⟩:=st;exact ⟨⟨old,k e (by simp) _ he⟩,h1.at λo q=>k it (by simp) o q⟩
 item:=by
  intro X hP hw hK hc i pins s σ H E I hf st hg;subst hP hw hK;obtain ⟨⟨old,he⟩,h1⟩:=st;obtain ⟨xs,x,qx,ex⟩:=hg;obtain ⟨us,rx,px,_⟩:=I.list qx;obtain ⟨u,eu,ru⟩:=rx.get ex;refine wpAny_pyNext_enum_item he h1 px.isList (x:=u) (by simpa using eu) hei λh' a1 a2 a3 a4 hk=>?_
  refine ⟨_,rfl,wpAny_letOwnedTupleGo_enum a1 λh'' he'' hs=>?_⟩;have hT0:H s.heap.objs.size=none:=I.hok.fresh (ak _);have ene:s.heap.objs.size≠e:=FU (Heap.lt_size he)
  have up:∀b o,b∉[e,it]->s.heap.get? b=some o->h''.get? b=some o:=λb o hb q=>by
   simp only[aE,aV,or_false,not_or] at hb;exact (hs.2 b hb.1).trans (hk b o hb.1 hb.2 q)
  have tup:h''.get? s.heap.objs.size=some { cls:=.type "tuple",data:=.seq #[.int i s.toks,u] }:=(hs.2 _ ene).trans a3;have I1:Inv X pins σ H { s with heap:=h'',toks:=s.toks+1 }:=I.moved (g':=s.gens) (d':=s.drawn) (t':=s.toks+1) (ch:=[e,it]) hf up I.bare;have fT:jg X pins H s.heap.objs.size:=I.fpOk (ak _) hT0;have I2:=I1.track (o:=.tup [.int i,x]) fT ⟨ib rfl,[.int i s.toks,u],.cons ⟨_,rfl⟩ (.cons ru .nil),⟨_,tup,rfl,_,rfl⟩⟩;refine ⟨.ref s.heap.objs.size,_,I2,rfl,⟨_,x,rfl,hT0,rfl,λxs' q=>by rw[I.list_inj q qx];exact ex⟩,?_,λb hb=>?_⟩
  ·exact ⟨⟨_,by simpa using he''⟩,a2.at λo q=>(hs.2 _ hei.symm).trans q⟩
  ·rw[br]
   ·exact (hf b hb).1
   ·obtain ⟨o1,g1,_⟩:=h1;simp only[aE,aV,or_false] at hb;rcases hb with rfl | rfl
    ·exact ene.symm
    ·exact cG (Heap.lt_size g1)
 done:=by
  intro X hP hw hK hc i pins s σ H E I hf st hg;subst hP hw hK;obtain ⟨⟨old,he⟩,h1⟩:=st;obtain ⟨xs,qx,hend⟩:=hg;obtain ⟨us,rx,px,_⟩:=I.list qx;have lx:=rx.length;refine wpAny_pyNext_enum_end (I.ok.hd hc) he h1 px.isList (by simp;lia) λh' hk=>⟨rfl,?_⟩
  exact I.moved (g':=s.gens) (d':=s.drawn) (t':=s.toks) (ch:=[e,it]) hf (λb o hb q=>hk b o (λz=>hb (by simp [z])) q) I.bare
 self:=λ_ _ _ _ _ st h=>let ⟨⟨_,he⟩,_⟩:=st;wpAny_pyIter_enum he h
section
variable {X:Cx}
def LD (K:FG9) (ta:TA):TI:=λσ H R=>ta σ H λvs H1=>∃l,vs=[.ref l]/\(∃xs,bO K H1 l xs)/\R (Nn K l) H1
theorem Fb {a:Expr} {ta:TA} {p pos tpos:Pos} {elts:List Expr} {kk:Nat} (hg:Gl X "enumerate") (hm:X.mg "enumerate"=none) (ha:PA X [a] ta) (hs:starEach [a] X.env=[(false,eval a X.env)]:=by rfl) :
  PI X (.Tuple elts kk tpos) (.Call (.Name "enumerate" p) [a] [] pos) (LD X.K ta):=by
 intro pins s σ H R I h;refine Call_ (jc I hg hm boot_enumerate (PyProof.Rows.callWith_type1 (fz (ha pos pins s σ H _ I h) λus s1 ⟨vs,H1,I1,r1,q1⟩=>?_) (by rw[hs];rfl) rfl));obtain ⟨l,e,⟨xs,qx⟩,q⟩:=q1;subst e;obtain ⟨u,rfl,ru⟩:=vals1 r1;cases ru;obtain ⟨us,rx,px,_⟩:=I1.list qx;refine call_enumerate_list px.isList λh' a1 a2 a3 hk=>wpAny_pyIter_enum a1 ?_
 have I2:Inv X pins σ H1 { s1 with heap:=h' }:=I1.kept (t':=s1.toks) hk;refine ⟨_,[s1.heap.objs.size+1,s1.heap.objs.size],_,_,H1,rfl,I2,FZ (s1.heap.objs.size+1) s1.heap.objs.size l (Nat.succ_ne_self _),⟨⟨_,a1⟩,a2⟩,λb hb=>?_,q⟩
 have hb':s1.heap.objs.size<=b:=by
  simp only[aE,aV,or_false] at hb;rcases hb with rfl | rfl <;> first | exact oJ _ | exact ak _
 exact I1.fpOk hb' (I1.hok.fresh hb')
end
theorem Ic {K:FG9} (h:ta σ H λvs H1=>∃l,vs=[.ref l]/\(∃xs,bO K H1 l xs)/\R (Nn K l) H1):LD K ta σ H R:=h
theorem Je {K:FG9} {g:TG} {tb:TS} {D:Ends} (Pv:Nat->St->Hp->Prop) (h0:Pv 0 σ H) (hl:∀i σ H,i<=xs.length->Pv i σ H->bO K H l xs)
  (hs:∀i x σ H p,xs[i]?=some x->Pv i σ H->H p=none->g (.ref p) σ (upd H p (.tup [.int i,x])) λσ2 H2=>tb { D with nx:=Pv (i+1),ct:=Pv (i+1),bk:=D.nx } σ2 H2) (hd:∀σ H,Pv xs.length σ H->D.nx σ H) :
  ∃W:Nat->Nat->St->Hp->Prop,(∃m,W 0 m σ H)/\∀i m σ H,W i m σ H →
   ((Nn K l).stop i H/\D.nx σ H)\/((Nn K l).go i H/\∃N:St->Hp->Prop,(∀σ' H',N σ' H'->∃m',m' < m/\W (i+1) m' σ' H')/\∀x H',(Nn K l).yld i H x H'->g x σ H' λσ2 H2=>tb { D with nx:=N,ct:=N,bk:=D.nx } σ2 H2):=by
 refine ⟨λi m σ H=>m=xs.length - i/\i<=xs.length/\Pv i σ H,⟨xs.length,by simp,bu _,h0⟩,?_⟩;rintro i m σ H ⟨rfl,hi,p⟩;have q1:=hl i σ H hi p;by_cases hlt:i < xs.length
 ·refine .inr ⟨⟨xs,xs[i],q1,by simp [hlt]⟩,Pv (i+1),λσ' H' p'=>⟨xs.length - (i+1),by lia,rfl,hlt,p'⟩,λx H' y=>?_⟩;obtain ⟨r,x',rfl,hr,rfl,e1⟩:=y;exact hs i x' σ _ r (e1 xs q1) p hr
 ·have e:i=xs.length:=by lia
  subst e;exact .inl ⟨⟨xs,q1,ak _⟩,hd σ H p⟩
section
variable {X:Cx}
theorem Kx (K:FG9) {e:Expr} {f:Str} {pos:Pos} {ta:TE} (he:PE X e ta) (hb:attributeBase e f X.env (eval e X.env)=eval e X.env) (hK:X.K=K:=by rfl):PE X (.Attribute e f pos) (Mb K ta f):=by subst hK;exact ee he hb
end
theorem Mx {K:FG9} (h:ta σ H λx H1=>∃a C dx fs v,x=.ref a/\H1 a=some (.ins C dx fs)/\GX K C/\iI K C f/\fs.lookup f=some v/\Q v H1):Mb K ta f σ H Q:=h
theorem J9 {K:FG9} (h:tv σ H λy H1=>ta σ H1 λx H2=>∃a C dx fs,x=.ref a/\H2 a=some (.ins C dx fs)/\GX K C/\iI K C f/\fs.length < 1000 /\
 D.nx σ (upd H2 a (.ins C dx (cg f y fs)))):N7 K ta tv f D σ H:=h
theorem Kd (h:ta σ H λx H1=>∃a dx fs,x=.ref a/\H1 a=some (.ins C dx fs)/\fs.lookup m=none /\
 t σ H1 λvs H2=>sp (x :: vs) H2 Q E):Lf C m sp [] E ta t σ H Q:=by
 have e:(λ(x:V) H1=>∃a dx fs,x=.ref a/\H1 a=some (.ins C dx fs)/\fs.lookup m=none/\t σ H1 λvs H2=>sp (x :: (vs++[])) H2 Q E)=λx H1=>∃a dx fs,x=.ref a/\H1 a=some (.ins C dx fs)/\fs.lookup m=none/\t σ H1 λvs H2=>sp (x :: vs) H2 Q E:=by
  funext x H1;simp only[oQ]
 show ta σ H (λ(x:V) H1=>∃a dx fs,x=.ref a/\H1 a=some (.ins C dx fs)/\fs.lookup m=none/\t σ H1 λvs H2=>sp (x :: (vs++[])) H2 Q E)
 rw[e];exact h
theorem Ke (h:t σ H λvs H1=>∀x dx,H1 x=none->H1 dx=none->dx≠x →
 sp (.ref x :: vs) (upd (upd H1 dx (.own x)) x (.ins C dx [])) (λv H2=>v=.non/\Q (.ref x) H2) E):Lh C sp [] E t σ H Q:=by
 have e:(λvs (H1:Hp)=>∀x dx,H1 x=none->H1 dx=none->dx≠x->sp (.ref x :: (vs++[])) (upd (upd H1 dx (.own x)) x (.ins C dx [])) (λv H2=>v=.non/\Q (.ref x) H2) E)=λvs H1=>∀x dx,H1 x=none->H1 dx=none->dx≠x->sp (.ref x :: vs) (upd (upd H1 dx (.own x)) x (.ins C dx [])) (λv H2=>v=.non/\Q (.ref x) H2) E:=by
  funext vs H1;simp only[oQ]
 show t σ H (λvs (H1:Hp)=>∀x dx,H1 x=none->H1 dx=none->dx≠x->sp (.ref x :: (vs++[])) (upd (upd H1 dx (.own x)) x (.ins C dx [])) (λv H2=>v=.non/\Q (.ref x) H2) E)
 rw[e];exact h
def Cv (x:Addr) (H H':Hp):Prop:=∀b o,H b=some o->b≠x->H' b=some o
theorem Cv.upd:Cv x H (L2.upd H x o):=λb u h n=>by rw[br n];exact h
def rB (H:Hp) (x:Addr):Prop:=∃C dx fs,H x=some (.ins C dx fs)
section
variable {K:FG9} {H H' H0:Hp} {q:Rat} {v:V} {x p:Addr} {qs:List Rat} {rows:LR9}
theorem cb.exc (h:cb K H q v) (e:Cv x H H') (hx:rB H x):cb K H' q v:=by
 obtain ⟨C,dx,fs,hx⟩:=hx;obtain ⟨r,er,s⟩:=h;refine ⟨r,er,?_⟩;rcases s with (h | ⟨o,h⟩) | h
 ·exact .inl (.inl (e _ _ h λz=>by rw[z,hx] at h;cases h))
 ·exact .inl (.inr ⟨o,e _ _ h λz=>by rw[z,hx] at h;cases h⟩)
 ·exact .inr h
theorem dC.exc (h:dC K H p qs) (e:Cv x H H') (hx:rB H x):dC K H' p qs:=by
 obtain ⟨xs,g,r⟩:=h;have hx':=hx;obtain ⟨C,dx,fs,hx⟩:=hx;exact ⟨xs,e _ _ g (λz=>by rw[z,hx] at g;cases g),Paired.imp' (λ_ _ z=>z.exc e hx') r⟩
theorem cI.exc (h:cI K H0 H qs v) (e:Cv x H H') (hx:rB H x):cI K H0 H' qs v:=by obtain ⟨q,a,b,c⟩:=h;exact ⟨q,a,b,c.exc e hx⟩
theorem bB.exc (h:bB K H0 H p rows) (e:Cv x H H') (hx:rB H x):bB K H0 H' p rows:=by
 obtain ⟨xs,g,r,n⟩:=h;have hx':=hx;obtain ⟨C,dx,fs,hx⟩:=hx;exact ⟨xs,e _ _ g (λz=>by rw[z,hx] at g;cases g),Paired.imp' (λ_ _ z=>z.exc e hx') r,n⟩
end
def oy (a b c:Addr) (n i o:Nat):List (Str×V):=cg "outs" (.int o) (cg "look" (.ref c) (cg "ins" (.int i) (cg "put" (.ref b) (cg "states" (.int n) (cg "move" (.ref a) [])))))
section
variable {a b c:Addr} {n i o:Nat}
theorem sQ:(oy a b c n i o).lookup ("look":Str)=some (.ref c):=by
 unfold oy;rw[bF,if_neg (by decide +kernel),bF,if_pos rfl]
theorem Bc:(oy a b c n i o).lookup ("put":Str)=some (.ref b):=by
 unfold oy;rw[bF,if_neg (by decide +kernel),bF,if_neg (by decide +kernel),bF,if_neg (by decide +kernel),bF,if_pos rfl]
theorem gK:(oy a b c n i o).lookup ("states":Str)=some (.int n):=by
 unfold oy;rw[bF,if_neg (by decide +kernel),bF,if_neg (by decide +kernel),bF,if_neg (by decide +kernel),bF,if_neg (by decide +kernel),bF,if_pos rfl]
theorem sP:(oy a b c n i o).lookup ("move":Str)=some (.ref a):=by
 unfold oy;rw[bF,if_neg (by decide +kernel),bF,if_neg (by decide +kernel),bF,if_neg (by decide +kernel),bF,if_neg (by decide +kernel),bF,if_neg (by decide +kernel),bF,if_pos rfl]
theorem Mc {m:Str} (h1:¬m="outs") (h2:¬m="look") (h3:¬m="ins") (h4:¬m="put") (h5:¬m="states") (h6:¬m="move"):(oy a b c n i o).lookup m=none:=by
 unfold oy;rw[bF,if_neg h1,bF,if_neg h2,bF,if_neg h3,bF,if_neg h4,bF,if_neg h5,bF,if_neg h6];rfl
theorem DY:(oy a b c n i o).lookup ("turned":Str)=none:=Mc (by decide +kernel) (by decide +kernel) (by decide +kernel) (by decide +kernel) (by decide +kernel) (by decide +kernel)
end
theorem dM {k:Str} {v:V}:∀{l:List (Str×V)},(cg k v l).length<=l.length+1
 | []=>ak _
 | (x,y) :: r=>by
  unfold cg
  split
  ·simp
  ·have:=dM (k:=k) (v:=v) (l:=r);simp only[bx]
   lia
structure fY (mv pt lk:LR9):Prop where
 n8:mv.length<=8
 i4:pt.length<=4
 o4:lk.length<=4
 mw:∀xs∈mv,xs.length=mv.length
 pw:∀xs∈pt,xs.length=mv.length
 lw:∀xs∈lk,xs.length=mv.length
def rA (mv pt lk:LR9):Prop:=∃M V:Nat,0 < M/\M<=2^800/\V<=2^400/\GF M V mv/\GF M V pt/\GF M V lk
def oN (K:FG9) (H0 H:Hp) (C p:Addr) (mv pt lk:LR9):Prop:=∃dx a b c,H p=some (.ins C dx (oy a b c mv.length pt.length lk.length))/\H0 a=none/\H0 b=none/\H0 c=none/\bB K H0 H a mv/\bB K H0 H b pt/\bB K H0 H c lk
section
variable {K:FG9} {H H' H0 H1:Hp} {C p b:Addr} {mv pt lk:LR9}
theorem oN.same (h:oN K H0 H C p mv pt lk) (e:aF H H'):oN K H0 H' C p mv pt lk:=by obtain ⟨dx,a,b,c,g,n1,n2,n3,g1,g2,g3⟩:=h;exact ⟨dx,a,b,c,e _ _ g,n1,n2,n3,g1.same e,g2.same e,g3.same e⟩
theorem oN.weak (h:oN K H0 H C p mv pt lk) (e:aF H1 H0):oN K H1 H C p mv pt lk:=by obtain ⟨dx,a,b,c,g,n1,n2,n3,g1,g2,g3⟩:=h;exact ⟨dx,a,b,c,g,e.none n1,e.none n2,e.none n3,g1.weak e,g2.weak e,g3.weak e⟩
theorem rA.fits (h:rA mv pt lk) (hl:∀x∈l,(∃xs∈mv,x∈xs)\/(∃xs∈pt,x∈xs)\/(∃xs∈lk,x∈xs)\/x=0):Fits l:=by
 obtain ⟨M,V,h0,h1,h2,h3,h4,h5⟩:=h;refine ⟨M,V,h0,ai h1 (ao (by decide) (by decide)),ai h2 (ao (by decide) (by decide)),λx hx=>?_⟩;rcases hl x hx with ⟨xs,a,b⟩ | ⟨xs,a,b⟩ | ⟨xs,a,b⟩ | rfl
 ·exact h3 xs a x b
 ·exact h4 xs a x b
 ·exact h5 xs a x b
 ·exact Fr.zero
theorem rA.turn (h:rA mv pt lk):rA (bQ mv mv.length) lk pt:=by
 obtain ⟨M,V,h0,h1,h2,h3,h4,h5⟩:=h;refine ⟨M,V,h0,h1,h2,λys hy y hy'=>?_,h5,h4⟩;obtain ⟨j,_,rfl⟩:=ay.mp hy;obtain ⟨xs,hx,rfl⟩:=ay.mp hy';by_cases hj:j < xs.length
 ·rw[aa,af hj];exact h3 xs hx _ (aO hj)
 ·rw[aa,aT (by lia)];exact Fr.zero
theorem fY.turn (h:fY mv pt lk):fY (bQ mv mv.length) lk pt:=⟨by rw[cW];exact h.n8,h.o4,h.i4,λxs hx=>by rw[mE xs hx,cW],λxs hx=>by rw[cW];exact h.lw xs hx,λxs hx=>by rw[cW];exact h.pw xs hx⟩
end
def F0:Sp:=λvs H Q _=>∃i:Int,vs=[.int i]/\Q (.bl true) H
def F4 (K:FG9):Sp:=λvs H Q _=>∃x n,vs=[x]/\DJ K H x n/\uF n/\∀H',aF H H'->Q (.bl true) H'
inductive EO (vs:List V) (H:Hp) (Q:VK) (E9:XK):Prop
 | mk (p:Addr) (xs:List V) (a m:Int):vs=[.ref p,.int a,.int m]->H p=some (.lst xs)->(xs.length:Int)<=m->Q .non H->EO  vs H Q E9
inductive EZ (K:FG9) (vs:List V) (H:Hp) (Q:VK) (E9:XK):Prop
 | mk (p:Addr) (H0:Hp) (rows:LR9) (w:Nat):vs=[.ref p,.int w]->bB K H0 H p rows->rows.length<=1000->w<=1000->((∀xs∈rows,xs.length=w/\∀x∈xs,uF (nm x)))->(∀r H',H r=none->aF H H'->bB K H H' r rows->Q (.ref r) H')->EZ K vs H Q E9
def K6 (rows:LR9):Prop:=∀xs∈rows,∀x∈xs,uF (nm x)
inductive EW (K:FG9) (C:Addr) (vs:List V) (H:Hp) (Q:VK) (E9:XK):Prop
 | mk (x dx p q r:Addr) (Hb H0 H1 H2:Hp) (mv pt lk:LR9):vs=[.ref x,.ref p,.ref q,.ref r]->Hb x=none->Hb dx=none->dx≠x->H=upd (upd Hb dx (.own x)) x (.ins C dx [])->bB K H0 Hb p mv->bB K H1 Hb q pt->bB K H2 Hb r lk->fY mv pt lk->K6 mv->K6 pt->K6 lk->(∀H',aF Hb H'->oN K Hb H' C x mv pt lk->Q .non H')->EW K C vs H Q E9
inductive xM (K:FG9) (C:Addr) (vs:List V) (H:Hp) (Q:VK) (E9:XK):Prop
 | mk (x:Addr) (H0:Hp) (mv pt lk:LR9):vs=[.ref x]->oN K H0 H C x mv pt lk->fY mv pt lk->rA mv pt lk->(∀r H',H r=none->aF H H'->oN K H H' C r (bQ mv mv.length) lk pt->Q (.ref r) H')->xM K C vs H Q E9
theorem rA.ok (h:rA mv pt lk):K6 mv/\K6 pt/\K6 lk :=
 ⟨λxs hx x hx'=>(h.fits (l:=xs) λy hy=>.inl ⟨xs,hx,hy⟩).ok hx',λxs hx x hx'=>(h.fits (l:=xs) λy hy=>.inr (.inl ⟨xs,hx,hy⟩)).ok hx',λxs hx x hx'=>(h.fits (l:=xs) λy hy=>.inr (.inr (.inl ⟨xs,hx,hy⟩))).ok hx'⟩
def eT (K:FG9) (A:Addr->Prop) (H:Hp) (n:Nat) (C:Rat->Prop) (x:V):Prop:=∃q qs,x=V.ref q/\A q/\dC K H q qs/\qs.length=n/\∀y∈qs,C y
section
variable {K:FG9} {A A':Addr->Prop} {H H' H0:Hp} {n:Nat} {C C':Rat->Prop} {x v:V} {q b l p:Addr} {xs zs:List V} {y:Rat} {o:HO}
theorem eT.same (h:eT K A H n C x) (e:aF H H'):eT K A H' n C x:=by obtain ⟨q,qs,a,c,r,z⟩:=h;exact ⟨q,qs,a,c,r.same e,z⟩
theorem eT.upto (h:eT K A H n C x) (u:cU b H H') (B:hZ H b) (nb:¬A b):eT K A H' n C x:=by obtain ⟨q,qs,a,c,r,z⟩:=h;exact ⟨q,qs,a,c,r.upto u B (λe=>nb (by rw[<- e];exact c)),z⟩
theorem eT.other (h:eT K A H n C x) (hl:H l=some (.lst zs)) (nl:¬A l):eT K A (upd H l o) n C x:=by obtain ⟨q,qs,a,c,r,z⟩:=h;exact ⟨q,qs,a,c,r.updL hl (λe=>nl (by rw[<- e];exact c)),z⟩
theorem eT.weak (h:eT K A H n C x) (w:∀q,A q->A' q) (wc:∀y,C y->C' y):eT K A' H n C' x:=by obtain ⟨q,qs,a,c,r,l,z⟩:=h;exact ⟨q,qs,a,w q c,r,l,λy hy=>wc y (z y hy)⟩
theorem yq {α β:Type} {F:α->β->Prop} {a:α} {b:β} (h:F a b):∀{l1:List α} {l2:List β} (j:Nat),Paired F l1 l2->Paired F (l1.set j a) (l2.set j b)
 | _,_,_,.nil=>.nil
 | _,_,0,.cons _ t=>.cons h t
 | _,_,j+1,.cons r t=>.cons r (yq h j t)
theorem eT.put (h:eT K A H n C x) (hq:H q=some (.lst zs)) (hv:cb K H y v) (hc:C y) (j:Nat):eT K A (upd H q (.lst (zs.set j v))) n C x:=by
 obtain ⟨q1,qs,rfl,a,⟨zs1,g1,pr⟩,l1,c1⟩:=h;by_cases e:q1=q
 ·subst e;rw[hq] at g1;cases g1;refine ⟨q1,qs.set j y,rfl,a,⟨_,aH,yq (hv.updL hq) j (Paired.imp' (λ_ _ z=>z.updL hq) pr)⟩,by rw[dQ];exact l1,λz hz=>?_⟩;rcases cu hz with hz | rfl
  ·exact c1 z hz
  ·exact hc
 ·exact ⟨q1,qs,rfl,a,⟨zs1,by rw[br e];exact g1,Paired.imp' (λ_ _ z=>z.updL hq) pr⟩,l1,c1⟩
theorem eT.at (h:eT K A H n C x):∃q zs qs,x=V.ref q/\A q/\H q=some (.lst zs)/\zs.length=n/\Paired (cb K H) qs zs/\qs.length=n/\∀y∈qs,C y:=by obtain ⟨q,qs,a,c,⟨zs,g,pr⟩,l,z⟩:=h;exact ⟨q,zs,qs,a,c,g,by rw[<- pr.length];exact l,pr,l,z⟩
end
theorem pV {i:Int} (h:i.natAbs<=W) (hW:1<=W):Dr W (i:Rat):=⟨h,hW⟩
def OR (K:FG9) (A:Addr->Prop) (H:Hp) (n:Nat) (C:Rat->Prop) (p:Addr) (m:Nat):Prop:=∃us,H p=some (.lst us)/\us.length=m/\¬A p/\∀x∈us,eT K A H n C x
structure DK (A:Addr->Prop) (m p l b q0:Addr):Prop where
 am:¬A m
 ap:¬A p
 al:¬A l
 ab:¬A b
 aq:¬A q0
 mb:m≠b
 pb:p≠b
 lb:l≠b
 mp:m≠p
 ml:m≠l
 mq:m≠q0
theorem Fv {M:Nat} {z:Int} (h:z.natAbs<=2):Fr 1 2 (z:Rat):=Fr.int h
theorem Cc {z:Int} (hz:z.natAbs<=2) (ha:Fr M W a) (hc:Fr M W c):Fr M (3*W) (a+(z:Rat)*c):=by
 have h:=(Fv (M:=M) hz).mul hc;rw[AX] at h;exact (ha.add h).mono (by lia)
theorem A9 {z:Int} (h:z.natAbs<=1000):mU (z:Rat):=Ew (M:=1) (V:=1000) (by decide) (bw) (ai (show 1000<=2^10 by decide) (ao (by decide) (by decide))) (Fr.int h)
theorem xI {z:Int} (hz:z.natAbs<=2) (hc:Fr M W c) (h0:0 < M) (h1:M<=2^800) (hW:W<=2^140):mU ((z:Rat)*c):=by
 have h:=(Fv (M:=M) hz).mul hc;rw[AX] at h;refine Ew h0 (ai h1 (ao (by decide) (by decide))) (ai (bD 2 hW) ?_) h;rw[show 2*2^140=2^141 by rw[gH,cv]];exact ao (by decide) (by decide)
def gs (A:Addr->Prop) (b m:Addr) (H H':Hp):Prop:=∀c u,H c=some u->c≠b->¬A c->c≠m->H' c=some u
theorem gs.same (h:gs A b m H H1) (s:aF H1 H2):gs A b m H H2:=λc u e n1 n2 n3=>s _ _ (h c u e n1 n2 n3)
theorem gs.upto (h:gs A b m H H1) (s:cU b H1 H2):gs A b m H H2:=λc u e n1 n2 n3=>s.1 _ _ (h c u e n1 n2 n3) n1
theorem gs.upd (h:gs A b m H H1) (hq:A q\/q=m):gs A b m H (L2.upd H1 q o):=λc u e n1 n2 n3=>by
 rw[br]
 ·exact h c u e n1 n2 n3
 ·rintro rfl;rcases hq with hq | hq
  ·exact n2 hq
  ·exact n3 hq
theorem gs.new (h:gs A b m H H1) (hA:∀q,H q=none->A q) (B:hZ H1 b) (hm:H1 m≠none) (hr:H1 r=none):A r:=by
 by_cases z:A r
 ·exact z
 ·cases e:H r with
  | none=>exact hA r e
  | some u =>
   have:=h r u e (λy=>B.at (by rw[<- y];exact hr)) z (λy=>hm (by rw[<- y];exact hr));rw[hr] at this;cases this
structure FQ (K:FG9) (A:Addr->Prop) (n:Nat) (C:Rat->Prop) (r p b q0:Addr) (us:List V) (H0 H:Hp):Prop where
 gr:H r=some (.lst us)
 ru:∀x∈us,eT K A H n C x
 rp:eT K A H n C (.ref p)
 bag:hZ H b
 inn:Inner H b q0
 up:cU b H0 H
section
variable {K:FG9} {A:Addr->Prop} {n:Nat} {C:Rat->Prop} {r p b q0:Addr} {us:List V} {H0 H H':Hp} {y:Rat} {v:V}
theorem FQ.same (h:FQ K A n C r p b q0 us H0 H) (e:aF H H'):FQ K A n C r p b q0 us H0 H':=⟨e _ _ h.gr,λx hx=>(h.ru x hx).same e,h.rp.same e,h.bag.same e,(e.upto (p:=b)).2 _ h.inn,h.up.same e⟩
theorem FQ.upto (h:FQ K A n C r p b q0 us H0 H) (u:cU b H H') (B:hZ H' b) (nb:¬A b) (rb:r≠b):FQ K A n C r p b q0 us H0 H':=⟨u.other rb h.gr,λx hx=>(h.ru x hx).upto u h.bag nb,h.rp.upto u h.bag nb,B,u.2 _ h.inn,h.up.trans u⟩
theorem FQ.put (h:FQ K A n C r p b q0 us H0 H) (ap:A p) (nr:¬A r) (nb:¬A b) (nq:¬A q0) (hp:H0 p=none) (hv:cb K H y v) (hc:C y) (j:Nat):∃zs,H p=some (.lst zs)/\zs.length=n/\FQ K A n C r p b q0 us H0 (upd H p (.lst (zs.set j v))):=by
 obtain ⟨q,zs,qs,e,a,g,l,_⟩:=h.rp.at;cases e;have ne:∀{z},¬A z->z≠p:=λh e=>h (by rw[e];exact ap)
 exact ⟨zs,g,l,by rw[br (ne nr)];exact h.gr,λx hx=>(h.ru x hx).put g hv hc j,h.rp.put g hv hc j,h.bag.upd h.inn (ne nb).symm (ne nq).symm,h.inn.upd (ne nb).symm,h.up.after hp⟩
end
theorem yg {K:FG9} (h:∀x∈us,eT K A H n C x):∃rows:LR9,Paired (λqs x=>∃q,x=V.ref q/\A q/\dC K H q qs) rows us/\rows.length=us.length/\∀qs∈rows,qs.length=n/\∀y∈qs,C y:=by
 induction us with
 | nil=>exact ⟨[],.nil,rfl,λ_ z=>nomatch z⟩
 | cons u us ih =>
  obtain ⟨rows,pr,l,hr⟩:=ih λx hx=>h x (.tail _ hx)
  obtain ⟨q,qs,e,a,r,l1,c⟩:=h u (.head _);refine ⟨qs :: rows,.cons ⟨q,e,a,r⟩ pr,by simp [l],λzs hz=>?_⟩;rcases aE.mp hz with rfl | hz
  ·exact ⟨l1,c⟩
  ·exact hr zs hz
theorem D7 {K:FG9} {rows:LR9} (pr:Paired (λqs x=>∃q,x=V.ref q/\A q/\dC K H q qs) rows us) (h:∀qs∈rows,qs.length=n/\∀y∈qs,C y):∀x∈us,eT K A H n C x:=λx hx=>by
 obtain ⟨qs,hq,q,e,a,r⟩:=cP pr hx;exact ⟨q,qs,e,a,r,(h qs hq).1,(h qs hq).2⟩
theorem An {n:Nat}:∀{rows:LR9},(∀xs∈rows,xs.length=n)->rows.flatten.length=rows.length*n
 | [],_=>by simp
 | xs :: rows,h=>by
  rw[iK,av,h xs (.head _),An λys hy=>h ys (.tail _ hy),bx,jw,k6]
theorem J5 {rows:LR9} (h:∀qs∈rows,qs.length=n/\∀y∈qs,Dr (2^c) y):∃M:Nat,0 < M/\M<=2^(c*(rows.length*n))/\∀qs∈rows,∀y∈qs,Fr M (2^c) y:=by
 have fl:rows.flatten.length=rows.length*n:=An λys hy=>(h ys hy).1
 have hm:∀a∈rows.flatten.map (·.den),0 < a/\a<=2^c:=λa ha=>by
  obtain ⟨y,hy,rfl⟩:=ay.mp ha;obtain ⟨qs,hq,hy⟩:=List.mem_flatten.mp hy;exact ⟨y.den_pos,((h qs hq).2 y hy).2⟩
 refine ⟨td (rows.flatten.map (·.den)),vh λa ha=>(hm a ha).1,?_,λqs hq y hy=>?_⟩
 ·have:=yj (k:=c) (l:=rows.flatten.map (·.den)) λa ha=>(hm a ha).2
  rwa [ag,fl] at this
 ·exact (Fr.own y ((h qs hq).2 y hy).1).dvd (vm (ay.mpr ⟨y,List.mem_flatten.mpr ⟨qs,hq,hy⟩,rfl⟩))
theorem je {K:FG9} (h:OR K A H n C p m) (w:∀q,A q->H0 q=none):∃rows,bB K H0 H p rows/\rows.length=m/\∀qs∈rows,qs.length=n/\∀y∈qs,C y:=by
 obtain ⟨us,g,l,a,r⟩:=h;obtain ⟨rows,pr,lr,hr⟩:=yg r;refine ⟨rows,⟨us,g,Paired.imp' (λ_ _ ⟨q,e,aq,rq⟩=>⟨q,e,w q aq,rq⟩) pr,λhm=>?_⟩,by rw[lr,l],hr⟩;obtain ⟨q,_,e,aq,_⟩:=r _ hm;cases e;exact a aq
theorem gs.trans (h:gs A b m H H1) (h':gs A b m H1 H2):gs A b m H H2:=λc u e n1 n2 n3=>h' c u (h c u e n1 n2 n3) n1 n2 n3
theorem HX {K:FG9} {rows:LR9} (pr:Paired (cI K H0 H) rows us) (h:∀qs∈rows,qs.length=n/\∀y∈qs,C y) (w:∀q,V.ref q∈us->H0 q=none->H q≠none->A q):∀x∈us,eT K A H n C x:=λx hx=>by
 obtain ⟨qs,hq,q,e,a,r⟩:=cP pr hx;subst e;exact ⟨q,qs,rfl,w q hx a (by obtain ⟨_,g,_⟩:=r;rw[g];simp),r,(h qs hq).1,(h qs hq).2⟩
def F2:Sp:=λvs H Q _=>∃b,vs=[.ref b]/\hZ H b/\∀r (n i o w:Nat) H',H' r=some (.tup [.int n,.int i,.int o,.int w])->n<=5->i<=4->o<=4->(w=4\/w=9\/(w=1000000/\n<=2))->(n=5->i<=2/\o<=2)->hZ H' b->cU b H H'->Q (.ref r) H'
def fD (K:FG9) (H0 H:Hp) (r:Addr) (mv pt lk:LR9):Prop:=∃m p l,H r=some (.tup [.ref m,.ref p,.ref l])/\H0 m=none/\H0 p=none/\H0 l=none/\bB K H0 H m mv/\bB K H0 H p pt/\bB K H0 H l lk
section
variable {K:FG9} {H H' H0 H1:Hp} {r b:Addr} {mv pt lk:LR9}
theorem fD.same (h:fD K H0 H r mv pt lk) (e:aF H H'):fD K H0 H' r mv pt lk:=by obtain ⟨m,p,l,g,n1,n2,n3,g1,g2,g3⟩:=h;exact ⟨m,p,l,e _ _ g,n1,n2,n3,g1.same e,g2.same e,g3.same e⟩
theorem fD.upto (h:fD K H0 H r mv pt lk) (u:cU b H H') (B:hZ H b) (nb:H0 b≠none):fD K H0 H' r mv pt lk:=by
 obtain ⟨m,p,l,g,n1,n2,n3,g1,g2,g3⟩:=h;exact ⟨m,p,l,u.tup B g,n1,n2,n3,g1.upto u B (λz=>nb (by rw[<- z];exact n1)) nb,g2.upto u B (λz=>nb (by rw[<- z];exact n2)) nb,g3.upto u B (λz=>nb (by rw[<- z];exact n3)) nb⟩
theorem fD.weak (h:fD K H0 H r mv pt lk) (e:∀q,H0 q=none->H1 q=none):fD K H1 H r mv pt lk:=by
 obtain ⟨m,p,l,g,n1,n2,n3,⟨x1,y1,z1,w1⟩,⟨x2,y2,z2,w2⟩,⟨x3,y3,z3,w3⟩⟩:=h;exact ⟨m,p,l,g,e _ n1,e _ n2,e _ n3,⟨x1,y1,Paired.imp' (λ_ _ ⟨q,a,b,c⟩=>⟨q,a,e _ b,c⟩) z1,w1⟩,⟨x2,y2,Paired.imp' (λ_ _ ⟨q,a,b,c⟩=>⟨q,a,e _ b,c⟩) z2,w2⟩,⟨x3,y3,Paired.imp' (λ_ _ ⟨q,a,b,c⟩=>⟨q,a,e _ b,c⟩) z3,w3⟩⟩
end
inductive xN (K:FG9) (C:Addr) (vs:List V) (H:Hp) (Q:VK) (E9:XK):Prop
 | mk (r:Addr) (H0:Hp) (mv pt lk:LR9):vs=[.ref r]->fD K H0 H r mv pt lk->fY mv pt lk->rA mv pt lk->(∀x H',H x=none->aF H H'->oN K H H' C x mv pt lk->Q (.ref x) H')->xN K C vs H Q E9
theorem JK (h:i < w):(bQ rows w)[i]?=some (rows.map λxs=>xs.getD i 0):=by
 unfold bQ;rw[aD,cT h];rfl
def oG (J:Addr->Prop) (H H':Hp):Prop:=∀c u,H c=some u->(J c->∀xs,u≠.lst xs)->H' c=some u
section
variable {K:FG9} {J J':Addr->Prop} {H H' H1 H0:Hp} {C p b x:Addr} {mv pt lk rows:LR9} {qs:List Rat}
theorem oG.of (e:aF H H'):oG J H H':=λc u h _=>e c u h
theorem oG.trans (a:oG J H H1) (b:oG J H1 H'):oG J H H':=λc u h n=>b c u (a c u h n) n
theorem oG.set (h:H p=some (.lst xs)) (hJ:J p):oG J H (upd H p (.lst ys)):=λc u e n=>by
 by_cases z:c=p
 ·subst z;rw[h] at e;cases e;exact absurd rfl (n hJ xs)
 ·rw[br z];exact e
end
def p3 (k j:Nat) (l:List Rat):Prop:=∃M V:Nat,0 < M/\M<=2^k/\V<=2^j/\∀x∈l,Fr M V x
section
variable {k j k' j':Nat} {l xs ys:List Rat} {x y:Rat}
theorem p3.szn (h:p3 k j l) (hx:x∈l) (hk:k+j<=3950:=by decide):mU x:=by
 obtain ⟨M,V,h0,h1,h2,h3⟩:=h;obtain ⟨a,b⟩:=(h3 x hx).sz h0 h1 h2;exact ⟨a.mono (by lia),b.mono (by lia)⟩
theorem p3.rowM (h:p3 k j l) (hk:k+j<=4200:=by decide):∃M,EC M (l.map nm):=by
 obtain ⟨M,V,h0,h1,h2,h3⟩:=h;refine ⟨M,by lia,?_,λn hn=>?_⟩
 ·show ((M:Nat):Int).natAbs < 2^4400
  rw[cR];exact bg h1 (eB (by decide) (by lia))
 ·obtain ⟨x,hx,rfl⟩:=ay.mp hn;obtain ⟨a,_⟩:=(h3 x hx).sz h0 h1 h2;exact ⟨fO x,(h3 x hx).den,a.mono (by lia)⟩
theorem p3.one (h:p3 k j l) (hx:x∈l):p3 k j [x]:=by
 obtain ⟨M,V,h0,h1,h2,h3⟩:=h;exact ⟨M,V,h0,h1,h2,λy hy=>by rw[cz.mp hy];exact h3 x hx⟩
theorem Jl (h:p3 k j xs) (h':p3 k' j' ys) (hl:xs.length<=1000) (i:Nat) (hk:(k+k')+(j+j')<=3930:=by decide):mU (eL (xs.take i) (ys.take i)):=by
 obtain ⟨M,V,h0,h1,h2,h3⟩:=h;obtain ⟨N,W,k0,k1,k2,k3⟩:=h'
 have e:1000*(V*W)<=2^(10+(j+j')):=by
  rw[bC 2 10];exact aI (by decide) (ai (aI h2 k2) (by rw[<- bC];exact ak _))
 obtain ⟨a,b⟩:=((Fr.dot (λx hx=>h3 x (cH hx)) (λy hy=>k3 y (cH hy))).mono (az _ (show (xs.take i).length<=1000 by rw[cN];lia))).sz (cw h0 k0) (ai (aI h1 k1) (by rw[<- bC];exact ak _)) e;exact ⟨a.mono (by lia),b.mono (by lia)⟩
theorem Iw (hx:p3 k j [x]) (hy:p3 k' j' [y]) (hk:(k+k')+(j+j')<=3930:=by decide):mU (x*y):=by
 obtain ⟨M,V,h0,h1,h2,h3⟩:=hx;obtain ⟨N,W,k0,k1,k2,k3⟩:=hy;obtain ⟨a,b⟩:=((h3 x (.head _)).mul (k3 y (.head _))).sz (cw h0 k0) (ai (aI h1 k1) (by rw[<- bC];exact ak _)) (ai (aI h2 k2) (by rw[<- bC];exact ak _));exact ⟨a.mono (by lia),b.mono (by lia)⟩
def sI (xs ys:List Rat):Prop:=∃k j k' j':Nat,p3 k j xs/\p3 k' j' ys/\(k+k')+(j+j')<=3930
end
def LQ (mv pt lk:LR9):Prop:=∃M V:Nat,0 < M/\M<=2^400/\V<=2^120/\GF M V mv/\GF M V pt/\GF M V lk
section
variable {mv pt lk:LR9}
theorem LQ.sf (h:LQ mv pt lk):rA mv pt lk:=by obtain ⟨M,V,a,b,c,d⟩:=h;exact ⟨M,V,a,ai b (ao (by decide) (by decide)),ai c (ao (by decide) (by decide)),d⟩
end
inductive Be (K:FG9) (vs:List V) (H:Hp) (Q:VK) (E9:XK):Prop
 | mk (p q:Addr) (xs ys:List Rat):vs=[.ref p,.ref q]->dC K H p xs->dC K H q ys->ys.length=xs.length->xs.length<=1000->sI xs ys->(∀r H',aF H H'->cb K H' (eL xs ys) (.ref r)->Q (.ref r) H')->Be K vs H Q E9
inductive EX (K:FG9) (vs:List V) (H:Hp) (Q:VK) (E9:XK):Prop
 | mk (p q:Addr) (H0:Hp) (rows:LR9) (ys:List Rat):vs=[.ref p,.ref q]->bB K H0 H p rows->dC K H q ys->rows.length<=1000->ys.length<=1000->((∀xs∈rows,xs.length=ys.length/\sI xs ys))->(∀r H',H r=none->aF H H'->dC K H' r (rows.map λxs=>eL xs ys)->Q (.ref r) H')->EX K vs H Q E9
section
variable {mv pt lk pus:LR9} {st:List Rat} {k:Nat}
theorem sO (h:GF M W rows):GF M W (bQ rows w):=λys hy y hy'=>by
 obtain ⟨j,_,rfl⟩:=ay.mp hy;obtain ⟨xs,hx,rfl⟩:=ay.mp hy';rw[aa];cases e:xs[j]? with
 | none=>exact Fr.zero
 | some z=>exact h xs hx z (ax e)
end
theorem GH {l:List Rat} (h:∀x∈l,Dr (2^c) x) (hc:c<=20):∃B:Nat,0 < B/\B<=2^(c*l.length+2)/\∀x∈l,Fr B (2^22) x:=by
 obtain ⟨M,h0,h1,h2⟩:=KI (c:=c) (n:=l.length) (i:=0) (rows:=[]) M6 rfl h hc;refine ⟨M,h0,?_,h2 l (by simp)⟩;rw[Nat.zero_add,AX] at h1;exact h1
def LL (N:Addr->Prop) (B:Nat) (H:Hp) (p:Addr) (xs:List V):Prop:=H p=some (.lst xs)/\∀x∈xs,∃q zs,x=V.ref q/\N q/\q≠p/\H q=some (.lst zs)/\zs.length<=B
theorem LL.of {K:FG9} (h:bB K H0 H p rows) (hB:∀xs∈rows,xs.length<=B) (hN:∀q,H0 q=none->H q≠none->N q):∃xs,LL N B H p xs/\xs.length=rows.length:=by
 obtain ⟨xs,g,r,nn⟩:=h;refine ⟨xs,⟨g,λx hx=>?_⟩,r.length.symm⟩;obtain ⟨qs,hq,q,e,nq,zs,gq,rq⟩:=cP r hx;exact ⟨q,zs,e,hN q nq (by rw[gq];exact λz=>nomatch z),λz=>nn (by rw[<- z,<- e];exact hx),gq,by rw[<- rq.length];exact hB qs hq⟩
theorem LL.upd {N:Addr->Prop} {B B':Nat} {H:Hp} {p q:Addr} {xs ws:List V} (h:LL N B H p xs) (n:q≠p) (hb:B<=B') (hw:ws.length<=B'):LL N B' (upd H q (.lst ws)) p xs:=by
 refine ⟨by rw[br (Ne.symm n)];exact h.1,λx hx=>?_⟩;obtain ⟨q',zs,e,a,b,g,l⟩:=h.2 x hx;by_cases z:q'=q
 ·subst z;exact ⟨q',ws,e,a,b,aH,hw⟩
 ·exact ⟨q',zs,e,a,b,by rw[br z];exact g,by lia⟩
theorem LL.same (h:LL N B H p xs) (e:aF H H'):LL N B H' p xs:=⟨e _ _ h.1,λx hx=>let ⟨q,zs,a,b,c,d,l⟩:=h.2 x hx;⟨q,zs,a,b,c,e _ _ d,l⟩⟩
theorem NZ {i:Int} (h:i=0\/i=1):Fr 1 1 (i:Rat):=Fr.int (by rcases h with rfl | rfl <;> decide)
theorem lZ {α β:Type} {F:α->β->Prop}:∀{l1:List α} {l2:List β} (_:Paired F l1 l2) (k:Nat),Paired F (l1.drop k) (l2.drop k)
 | _,_,h,0=>h
 | _,_,.nil,_+1=>.nil
 | _,_,.cons _ r,k+1=>lZ r k
end L2
namespace L2
abbrev gY:=Nat->Rat
def zB (F:List gY->Rat) (r:Nat):List gY->List gY->Rat->Rat
 | _,[],_=>0
 | pre,v :: post,s=>s*v r*F (pre++post)+zB F r (pre++[v]) post (-s)
def oO:List Nat->List gY->Rat
 | [],[]=>1
 | [],_ :: _=>0
 | r :: rs,vs=>zB (λws=>oO rs ws) r [] vs 1
theorem Ci:oO [] (a++x :: b)=0:=by
 cases a <;> rfl
theorem BR {F:List gY->Rat} {r:Nat} {f g h:gY} {x y:Rat} (hF:∀a b,F (a++h :: b)=x*F (a++f :: b)+y*F (a++g :: b)):∀(b p q:List gY) (s:Rat),zB F r (p++h :: q) b s=x*zB F r (p++f :: q) b s+y*zB F r (p++g :: q) b s
 | [],p,q,s=>by simp only[zB,cV,qh]
 | v :: b,p,q,s=>by
  have i1:=hF p (q++b);have i2:=BR (r:=r) hF b p (q++[v]) (-s);simp only[zB,b8,d7] at i1 i2 ⊢;rw[i1,i2];grind
theorem Fj {F:List gY->Rat} {r:Nat} {f g h:gY} {x y:Rat} (hF:∀a b,F (a++h :: b)=x*F (a++f :: b)+y*F (a++g :: b)) (hr:h r=x*f r+y*g r):∀(a pre b:List gY) (s:Rat),zB F r pre (a++h :: b) s=x*zB F r pre (a++f :: b) s+y*zB F r pre (a++g :: b) s
 | [],pre,b,s=>by
  have i2:=BR (r:=r) hF b pre [] (-s);simp only[zB,cK] at i2 ⊢;rw[i2,hr];grind
 | v :: a,pre,b,s=>by
  have i1:=hF (pre++a) b;have i2:=Fj hF hr a (pre++[v]) b (-s);simp only[zB,b8,d7] at i1 i2 ⊢;rw[i1,i2];grind
theorem sG {f g h:gY} {x y:Rat}:∀{rs:List Nat},(∀r∈rs,h r=x*f r+y*g r)->∀a b,oO rs (a++h :: b)=x*oO rs (a++f :: b)+y*oO rs (a++g :: b)
 | [],_,a,b=>by rw[Ci,Ci,Ci];grind
 | r :: rs,hr,a,b=>Fj (λa b=>sG (λr' h'=>hr r' (.tail _ h')) a b) (hr r (.head _)) a [] b 1
theorem Cg (hr:∀r∈rs,h r=0) (a b:List gY):oO rs (a++h :: b)=0:=by
 rw[sG (f:=h) (g:=h) (x:=0) (y:=0) (λr h'=>by rw[hr r h'];grind) a b];grind
theorem Fl {F:List gY->Rat} {r:Nat} {x:gY} (hF:∀a b,F (a++x :: x :: b)=0):∀(b p q:List gY) (s:Rat),zB F r (p++x :: x :: q) b s=0
 | [],p,q,s=>rfl
 | v :: b,p,q,s=>by
  have i1:=hF p (q++b);have i2:=Fl (r:=r) hF b p (q++[v]) (-s);simp only[zB,b8,d7] at i1 i2 ⊢;rw[i1,i2];grind
theorem Fm {F:List gY->Rat} {r:Nat} {x:gY} (hF:∀a b,F (a++x :: x :: b)=0):∀(a pre b:List gY) (s:Rat),zB F r pre (a++x :: x :: b) s=0
 | [],pre,b,s=>by
  have i2:=Fl (r:=r) hF b pre [] (- -s);simp only[zB,cK,b8,d7] at i2 ⊢;rw[i2];grind
 | v :: a,pre,b,s=>by
  have i1:=hF (pre++a) b;have i2:=Fm (r:=r) hF a (pre++[v]) b (-s);simp only[zB,b8,d7] at i1 i2 ⊢;rw[i1,i2];grind
theorem yR {x:gY}:∀{rs:List Nat} (a b:List gY),oO rs (a++x :: x :: b)=0
 | [],a,b=>Ci
 | r :: rs,a,b=>Fm (λa b=>yR a b) a [] b 1
theorem KP (a b:List gY):oO rs (a++x :: y :: b)=- oO rs (a++y :: x :: b):=by
 have hr:∀r∈rs,(λr=>1*x r+1*y r) r=1*x r+1*y r:=λ_ _=>rfl
 have h0:=yR (x:=λr=>1*x r+1*y r) (rs:=rs) a b;have h1:=sG hr a ((λr=>1*x r+1*y r) :: b);have h2:=sG hr (a++[x]) b;have h3:=sG hr (a++[y]) b;have h4:=yR (x:=x) (rs:=rs) a b;have h5:=yR (x:=y) (rs:=rs) a b;simp only[b8,d7,cK] at h0 h1 h2 h3 h4 h5;rw[h1,h2,h3,h4,h5] at h0;grind
theorem Cj {x:gY} {rs:List Nat}:∀(b a c:List gY),oO rs (a++x :: (b++x :: c))=0
 | [],a,c=>yR a c
 | y :: b,a,c=>by
  have:=Cj (x:=x) (rs:=rs) b (a++[y]) c;simp only[b8,d7,cK] at this;rw[d7,KP,this];rfl
def bG:Nat->(Nat->Rat)->Rat
 | 0,_=>0
 | k+1,f=>bG k f+f k
theorem aJ {f g:Nat->Rat}:∀{k:Nat},(∀j,j < k->f j=g j)->bG k f=bG k g
 | 0,_=>rfl
 | k+1,h=>by
  show bG k f+f k=bG k g+g k
  rw[aJ λj hj=>h j (by lia),h k (by lia)]
theorem kb {f g:Nat->Rat}:∀{k:Nat},bG k (λj=>f j+g j)=bG k f+bG k g
 | 0=>by show (0:Rat)=0+0;grind
 | k+1=>by
  show bG k (λj=>f j+g j)+_=(bG k f+f k)+(bG k g+g k)
  rw[kb];grind
theorem cy {f:Nat->Rat} {c:Rat}:∀{k:Nat},bG k (λj=>c*f j)=c*bG k f
 | 0=>by show (0:Rat)=c*0;grind
 | k+1=>by
  show bG k (λj=>c*f j)+_=c*(bG k f+f k)
  rw[cy];grind
theorem cB {f:Nat->Rat}:∀{k:Nat},(∀j,j < k->f j=0)->bG k f=0
 | 0,_=>rfl
 | k+1,h=>by
  show bG k f+f k=0
  rw[cB λj hj=>h j (by lia),h k (by lia)];grind
theorem c6 {f:Nat->Rat} {i:Nat}:∀{k:Nat},i < k->(∀j,j < k->j≠i->f j=0)->bG k f=f i
 | k+1,hi,h=>by
  show bG k f+f k=f i
  by_cases e:i=k
  ·subst e;rw[cB λj hj=>h j (by lia) (by lia)];grind
  ·rw[c6 (by lia) λj hj=>h j (by lia),h k (by lia) (λz=>e z.symm)];grind
theorem eG {f:Nat->Nat->Rat} {m:Nat}:∀{k:Nat},bG k (λi=>bG m (f i))=bG m (λj=>bG k λi=>f i j)
 | 0=>(cB λ_ _=>rfl).symm
 | k+1=>by
  show bG k (λi=>bG m (f i))+bG m (f k)=bG m (λj=>bG k (λi=>f i j)+f k j)
  rw[eG,kb]
theorem Ey {rs:List Nat} {W:gY} {v:Nat->gY} {c:Nat->Rat} (a b:List gY):∀{k:Nat} {W:gY},(∀r∈rs,W r=bG k λj=>c j*v j r)->oO rs (a++W :: b)=bG k λj=>c j*oO rs (a++v j :: b)
 | 0,W,h=>Cg h a b
 | k+1,W,h=>by
  rw[sG (f:=λr=>bG k λj=>c j*v j r) (g:=v k) (x:=1) (y:=c k) (λr hr=>by rw[h r hr];show bG k _+_=_;grind) a b,Ey a b (k:=k) (W:=λr=>bG k λj=>c j*v j r) λr _=>rfl];show _=bG k _+_
  grind
end L2
namespace L2
open Nm
def vf (f:Nat->Nat):Nat->List Nat
 | 0=>[]
 | k+1=>f k :: vf f k
def ot (v:Nat->gY):Nat->List gY
 | 0=>[]
 | k+1=>v k :: ot v k
def GW (v:Nat->gY) (i:Nat):Nat->List gY
 | 0=>[]
 | k+1=>if k<=i then [] else v k :: GW v i k
theorem pJ {f:Nat->Nat}:∀{k:Nat},(vf f k).length=k
 | 0=>rfl
 | k+1=>by show (vf f k).length+1=_;rw[pJ]
theorem cw_len {v:Nat->gY}:∀{k:Nat},(ot v k).length=k
 | 0=>rfl
 | k+1=>by show (ot v k).length+1=_;rw[cw_len]
theorem lY {f:Nat->Nat} {r:Nat}:∀{k:Nat},r∈vf f k->∃t,t < k/\r=f t
 | k+1,h=>by
  rcases aE.mp h with h | h
  ·exact ⟨k,by lia,h⟩
  ·obtain ⟨t,a,b⟩:=lY h;exact ⟨t,by lia,b⟩
theorem yh {f g:Nat->Nat}:∀{k:Nat},(∀j,j < k->f j=g j)->vf f k=vf g k
 | 0,_=>rfl
 | k+1,h=>by
  show f k :: vf f k=g k :: vf g k
  rw[h k (by lia),yh λj hj=>h j (by lia)]
theorem cw_congr {f g:Nat->gY}:∀{k:Nat},(∀j,j < k->f j=g j)->ot f k=ot g k
 | 0,_=>rfl
 | k+1,h=>by
  show f k :: ot f k=g k :: ot g k
  rw[h k (by lia),cw_congr λj hj=>h j (by lia)]
theorem cw_mem {v:Nat->gY} {j:Nat}:∀{k:Nat},j < k->v j∈ot v k
 | k+1,h=>by
  by_cases e:j=k
  ·subst e;exact .head _
  ·exact .tail _ (cw_mem (by lia))
theorem cw_in {v:Nat->gY} {x:gY}:∀{k:Nat},x∈ot v k->∃t,t < k/\x=v t
 | k+1,h=>by
  rcases aE.mp h with h | h
  ·exact ⟨k,by lia,h⟩
  ·obtain ⟨t,a,b⟩:=cw_in h;exact ⟨t,by lia,b⟩
theorem Jo {v:Nat->gY} {i j:Nat} (h1:i < j):∀{k:Nat},j < k->v j∈GW v i k
 | k+1,h=>by
  show v j∈if k<=i then [] else v k :: GW v i k
  rw[if_neg (by lia)];by_cases e:j=k
  ·subst e;exact .head _
  ·exact .tail _ (Jo h1 (by lia))
theorem Dz {v:Nat->gY} {i:Nat} {x:gY}:∀{k:Nat},x∈GW v i k->∃t,t < k/\x=v t
 | k+1,h=>by
  have h:x∈if k<=i then [] else v k :: GW v i k:=h
  split at h
  ·cases h
  ·rcases aE.mp h with h | h
   ·exact ⟨k,by lia,h⟩
   ·obtain ⟨t,a,b⟩:=Dz h;exact ⟨t,by lia,b⟩
theorem cw_split {v:Nat->gY} {i:Nat}:∀{k:Nat},i < k->ot v k=GW v i k++v i :: ot v i
 | k+1,h=>by
  show v k :: ot v k=(if k<=i then [] else v k :: GW v i k)++_
  by_cases e:i=k
  ·subst e;rw[if_pos (ak _)];rfl
  ·rw[if_neg (by lia),cw_split (k:=k) (i:=i) (by lia)];rfl
theorem Ao {c:Nat->Rat} (hi:i < k) (hW:∀r∈rs,W r=bG k λj=>c j*v j r):oO rs (GW v i k++W :: ot v i)=c i*oO rs (ot v k):=by
 rw[Ey (v:=v) (c:=c) (W:=W) _ _ hW,c6 hi λj hj ne=>?_,cw_split hi];rcases bP j i with h | h
 ·obtain ⟨s,t,e⟩:=DO (cw_mem (v:=v) h);rw[e,Cj];grind
 ·obtain ⟨s,t,e⟩:=DO (Jo (v:=v) (show i < j by lia) hj);have:=Cj (x:=v j) (rs:=rs) t s (ot v i);rw[e,b8,d7,this];grind
theorem Nc {c:Nat->Rat} (hW:∀r∈rs,W r=bG k λj=>c j*v j r):oO rs (W :: ot v k)=0:=by
 have:=Ey (v:=v) (c:=c) (W:=W) [] (ot v k) hW;rw[cK] at this;rw[this];refine cB λj hj=>?_
 obtain ⟨s,t,e⟩:=DO (cw_mem (v:=v) hj);have:=Cj (x:=v j) (rs:=rs) s [] t;rw[cK] at this;rw[e,cK,this];grind
theorem GG {c:Nat->Rat} (hi:i∉rs) (h1:W i=bG k (λj=>c j*v j i)+s) (hW:∀r∈rs,W r=bG k λj=>c j*v j r):oO (i :: rs) (W :: ot v k)=s*oO rs (ot v k):=by
 have e:=sG (rs:=i :: rs) (h:=W) (f:=λr=>bG k λj=>c j*v j r) (g:=λr=>if r=i then 1 else 0) (x:=1) (y:=s) (λr hr=>by
  rcases aE.mp hr with rfl | hr
  ·rw[h1,if_pos rfl];grind
  ·rw[hW r hr,if_neg (λz=>hi (by rw[<- z];exact hr))];grind) [] (ot v k)
 rw[cK,cK,cK,Nc (c:=c) λr _=>rfl] at e
 have e2:oO (i :: rs) ((λr=>if r=i then (1:Rat) else 0) :: ot v k)=oO rs (ot v k):=by
  show 1*(if i=i then (1:Rat) else 0)*oO rs ([]++ot v k)+zB (λws=>oO rs ws) i ([]++[λr=>if r=i then (1:Rat) else 0]) (ot v k) (-1)=_
  have hF:∀a b,(λws=>oO rs ws) (a++(λr=>if r=i then (1:Rat) else 0) :: b)=0*(λws=>oO rs ws) (a++(λr=>if r=i then (1:Rat) else 0) :: b)+0*(λws=>oO rs ws) (a++(λr=>if r=i then (1:Rat) else 0) :: b):=λa b=>by
   have:=Cg (h:=λr=>if r=i then (1:Rat) else 0) (rs:=rs) (λr hr=>if_neg λz=>hi (by rw[<- z];exact hr)) a b
   dsimp only
   rw[this];grind
  have:=BR (r:=i) hF (ot v k) [] [] (-1);rw[this,if_pos rfl,cK];grind
 rw[e2] at e;rw[e];grind
theorem Lx {F:List gY->Rat} {r B W:Nat}:∀{post pre:List gY} {s:Rat},(∀ws,(∀w∈ws,w∈pre++post)->ws.length+1=(pre++post).length->Fr 1 B (F ws))->(∀w∈post,Fr 1 W (w r))->Fr 1 1 s->Fr 1 (post.length*(W*B)) (zB F r pre post s)
 | [],pre,s,_,_,_=>by show Fr 1 _ 0;exact Fr.zero
 | v :: post,pre,s,hF,hw,hs=>by
  have t1:Fr 1 (W*B) (s*v r*F (pre++post)):=by
   have:=(hs.mul (hw v (.head _))).mul (hF (pre++post) (λw h=>by
    rcases au.mp h with h | h
    ·exact oK _ h
    ·exact bV _ (.tail _ h)) (by simp only[av,bx];lia))
   simpa using this
  have t2:=Lx (F:=F) (r:=r) (B:=B) (W:=W) (post:=post) (pre:=pre++[v]) (s:=-s) (λws h h'=>hF ws (λw hw=>by simpa using h w hw) (by simpa using h')) (λw h=>hw w (.tail _ h)) (by simpa using hs.neg);exact (t1.add t2).mono (by rw[bx,jw];lia)
theorem yQ {W N:Nat}:∀{rs:List Nat} {vs:List gY},vs.length<=N->(∀v∈vs,∀r∈rs,Fr 1 W (v r))->Fr 1 ((N*W)^rs.length) (oO rs vs)
 | [],[],_,_=>by show Fr 1 1 1;exact (Fr.int (i:=1) (by decide))
 | [],_ :: _,_,_=>by show Fr 1 _ 0;exact Fr.zero
 | r :: rs,vs,hl,h=>by
  have:=Lx (F:=λws=>oO rs ws) (r:=r) (B:=(N*W)^rs.length) (W:=W) (post:=vs) (pre:=[]) (s:=1) (λws h1 h2=>yQ (by rw[cK] at h2;lia) λv hv r' hr'=>h v (by simpa using h1 v hv) r' (.tail _ hr')) (λw hw=>h w hw r (.head _)) (Fr.int (i:=1) (by decide));refine this.mono ?_;rw[bx,gH,cv ((N*W)^rs.length),cx N];exact az _ hl
structure uL (a:Nat->Nat->Rat) (m k:Nat) (pm p:Nat->Nat) (l:Nat->Nat->Rat) (d:Rat):Prop where
 inj:∀i j,i < m->j < m->pm i=pm j->i=j
 rng:∀i,i < m->pm i < m
 km:k<=m
 d0:d≠0
 det:d=oO (vf pm k) (ot (λj r=>a r (p j)) k)
 eqs:∀i,i < m->∀c,d*a (pm i) c=bG k (λj=>a (pm i) (p j)*l j c)+if i < k then 0 else l i c
 unit:∀i,i < m->∀j,j < k->l i (p j)=if i=j then d else 0
section
variable {a l:Nat->Nat->Rat} {m k:Nat} {pm p:Nat->Nat} {d:Rat}
theorem uL.start (h:∀i,i < m->pm i=i):uL a m 0 pm p a 1 where
 inj i j hi hj e:=by rw[h i hi,h j hj] at e;exact e
 rng i hi:=by rw[h i hi];exact hi
 km:=bu _
 d0:=by decide
 det:=rfl
 eqs i hi c:=by
  rw[h i hi,if_neg (by lia)];show 1*a i c=0+a i c
  grind
 unit i _ j hj:=absurd hj (by lia)
theorem uL.coef (B:uL a m k pm p l d) (hi:i < m):a (pm i) c=bG k (λj=>(l j c / d)*a (pm i) (p j))+if i < k then 0 else l i c / d:=by
 have h:=B.eqs i hi c;have d0:=B.d0
 have e:bG k (λj=>(l j c / d)*a (pm i) (p j))=(1 / d)*bG k (λj=>a (pm i) (p j)*l j c):=by
  rw[<- cy];exact aJ λj _=>by grind
 rw[e]
 split at h
 ·rw[if_pos (by assumption)];grind
 ·rw[if_neg (by assumption)];grind
theorem uL.old (B:uL a m k pm p l d) (hi:i < k):l i c=oO (vf pm k) (GW (λj r=>a r (p j)) i k++(λr=>a r c) :: ot (λj r=>a r (p j)) i):=by
 have km:=B.km;have d0:=B.d0;rw[Ao (v:=λj r=>a r (p j)) (c:=λj=>l j c / d) hi λr hr=>?_,<- B.det]
 ·grind
 ·obtain ⟨t,ht,rfl⟩:=lY hr;have:=B.coef (i:=t) (c:=c) (by lia);rw[if_pos ht] at this;rw[this];grind
theorem uL.new (B:uL a m k pm p l d) (h1:k<=i) (hi:i < m):l i c=oO (pm i :: vf pm k) ((λr=>a r c) :: ot (λj r=>a r (p j)) k):=by
 have km:=B.km;have d0:=B.d0
 have hn:pm i∉vf pm k:=λhm=>by
  obtain ⟨t,ht,e⟩:=lY hm;have:=B.inj i t hi (by lia) e
  lia
 have e1:a (pm i) c=bG k (λj=>(l j c / d)*a (pm i) (p j))+l i c / d:=by
  have:=B.coef (i:=i) (c:=c) hi;rwa [if_neg (by lia)] at this
 have e2:∀r∈vf pm k,a r c=bG k (λj=>(l j c / d)*a r (p j)):=λr hr=>by
  obtain ⟨t,ht,rfl⟩:=lY hr;have:=B.coef (i:=t) (c:=c) (by lia);rw[if_pos ht] at this;rw[this];grind
 rw[GG (v:=λj r=>a r (p j)) (c:=λj=>l j c / d) (W:=λr=>a r c) (s:=l i c / d) hn e1 e2,<- B.det];grind
theorem uL.fr (B:uL a m k pm p l d) (hN:k < N) (hW:1<=W) (ha:∀i,i < m->∀c,Fr 1 W (a i c)) (hi:i < m):Fr 1 ((N*W)^(k+1)) (l i c):=by
 have km:=B.km;have mono:∀t,t<=k+1->(N*W)^t<=(N*W)^(k+1):=λt ht=>ao (cw (by lia) hW) ht
 have ha':∀r∈vf pm k,∀c,Fr 1 W (a r c):=λr hr c=>by
  obtain ⟨t,ht,rfl⟩:=lY hr;exact ha _ (B.rng t (by lia)) c
 by_cases h:i < k
 ·rw[B.old h];refine (yQ (W:=W) (N:=N) ?_ ?_).mono (mono _ (by rw[pJ];lia))
  ·have:=congrArg List.length (cw_split (v:=λj r=>a r (p j)) h);rw[av,bx,cw_len] at this;rw[av,bx]
   lia
  ·intro v hv r hr;rcases au.mp hv with hv | hv
   ·obtain ⟨t,_,rfl⟩:=Dz hv;exact ha' r hr _
   ·rcases aE.mp hv with rfl | hv
    ·exact ha' r hr _
    ·obtain ⟨t,_,rfl⟩:=cw_in hv;exact ha' r hr _
 ·rw[B.new (by lia) hi];refine (yQ (W:=W) (N:=N) ?_ ?_).mono (mono _ (by rw[bx,pJ];lia))
  ·rw[bx,cw_len]
   lia
  ·intro v hv r hr
   have hr':∀c,Fr 1 W (a r c):=λc=>by
    rcases aE.mp hr with rfl | hr
    ·exact ha _ (B.rng i hi) c
    ·exact ha' r hr c
   rcases aE.mp hv with rfl | hv
   ·exact hr' _
   ·obtain ⟨t,_,rfl⟩:=cw_in hv;exact hr' _
theorem uL.dfr (B:uL a m k pm p l d) (hN:k<=N) (ha:∀i,i < m->∀c,Fr 1 W (a i c)):Fr 1 ((N*W)^k) d:=by
 have km:=B.km;rw[B.det]
 have:=yQ (W:=W) (N:=N) (rs:=vf pm k) (vs:=ot (λj r=>a r (p j)) k) (by rw[cw_len];exact hN) λv hv r hr=>by
  obtain ⟨t,ht,rfl⟩:=lY hr;obtain ⟨t',_,rfl⟩:=cw_in hv;exact ha _ (B.rng t (by lia)) _
 rwa [pJ] at this
def iO (k t i:Nat):Nat:=if i=k then t else if i=t then k else i
theorem qo (hk:k < m) (ht:t < m) (hi:i < m):iO k t i < m:=by
 unfold iO
 split
 ·exact ht
 ·split
  ·exact hk
  ·exact hi
theorem Md (h:iO k t i=iO k t j):i=j:=by
 unfold iO at h
 split at h <;> split at h <;> (try split at h) <;> (try split at h) <;> lia
theorem rJ (h:k<=t) (hi:i < k):iO k t i=i:=by
 unfold iO;rw[if_neg (by lia),if_neg (by lia)]
theorem sR (h:k<=t) (hi:k<=i):k<=iO k t i:=by
 unfold iO
 split
 ·exact h
 ·split <;> lia
theorem uL.swap (B:uL a m k pm p l d) {t:Nat} (h:k<=t) (ht:t < m):uL a m k (λi=>pm (iO k t i)) p (λi=>l (iO k t i)) d where
 inj i j hi hj e:=Md (B.inj _ _ (qo (by lia) ht hi) (qo (by lia) ht hj) e)
 rng i hi:=B.rng _ (qo (by lia) ht hi)
 km:=B.km
 d0:=B.d0
 det:=by rw[B.det,yh (f:=pm) (g:=λi=>pm (iO k t i)) λj hj=>by rw[rJ h hj]]
 eqs i hi c:=by
  have e:=B.eqs (iO k t i) (qo (by lia) ht hi) c;have e1:bG k (λj=>a (pm (iO k t i)) (p j)*l (iO k t j) c)=bG k (λj=>a (pm (iO k t i)) (p j)*l j c):=aJ λj hj=>by rw[rJ h hj]
  rw[e1];by_cases hk:i < k
  ·rw[rJ h hk] at e ⊢;exact e
  ·rw[if_neg hk];rw[if_neg (by have:=sR h (show k<=i by lia);lia)] at e;exact e
 unit i hi j hj:=by
  rw[B.unit _ (qo (by lia) ht hi) j hj];by_cases hk:i < k
  ·rw[rJ h hk]
  ·have:=sR h (show k<=i by lia);rw[if_neg (by lia),if_neg (by lia)]
theorem uL.step (B:uL a m k pm p l d) {c0:Nat} (hk:k < m) (h0:l k c0≠0):uL a m (k+1) pm (λj=>if j=k then c0 else p j) (λi c=>if i=k then l k c else (l k c0*l i c - l i c0*l k c) / d) (l k c0) where
 inj:=B.inj
 rng:=B.rng
 km:=hk
 d0:=h0
 det:=by
  rw[B.new (ak _) hk];show _=oO (pm k :: vf pm k) ((λr=>a r (if k=k then c0 else p k)) :: ot _ k)
  rw[if_pos rfl];congr 2;exact cw_congr λj hj=>by rw[if_neg (show j≠k by lia)]
 eqs i hi c:=by
  have d0:=B.d0;have e1:=B.eqs i hi c;have e2:=B.eqs i hi c0;show l k c0*a (pm i) c=(bG k _+_)+_
  have s1:bG k (λj=>a (pm i) (if j=k then c0 else p j)*(if j=k then l k c else (l k c0*l j c - l j c0*l k c) / d))=(l k c0 / d)*bG k (λj=>a (pm i) (p j)*l j c)+(- l k c / d)*bG k (λj=>a (pm i) (p j)*l j c0):=by
   rw[<- cy,<- cy,<- kb];refine aJ λj hj=>?_
   rw[if_neg (show j≠k by lia),if_neg (show j≠k by lia)];grind
  rw[s1];simp only[if_true];generalize bG k (λj=>a (pm i) (p j)*l j c)=S1 at e1 ⊢;generalize bG k (λj=>a (pm i) (p j)*l j c0)=S2 at e2 ⊢;rcases dI i k with h | h | h
  ·rw[if_pos h] at e1 e2;rw[if_pos (by lia)];grind
  ·subst h;rw[if_neg (by lia)] at e1 e2;rw[if_pos (by lia)];grind
  ·rw[if_neg (by lia)] at e1 e2;rw[if_neg (by lia),if_neg (by lia)];grind
 unit i hi j hj:=by
  have d0:=B.d0;by_cases e:j=k
  ·subst e;simp only[if_true];by_cases ei:i=j
   ·rw[if_pos ei,if_pos ei]
   ·rw[if_neg ei,if_neg ei];grind
  ·have hj':j < k:=by lia
   rw[if_neg e];by_cases ei:i=k
   ·rw[if_pos ei,B.unit k hk j hj',if_neg (by lia),if_neg (by lia)]
   ·rw[if_neg ei,B.unit i hi j hj',B.unit k hk j hj',if_neg (show k≠j by lia)]
    split
    ·grind
    ·grind
end
def d5 (m:Nat) (a:Nat->Nat->Rat) (x:Nat->Rat):Prop:=∃w:Nat->Rat,∀c,x c=bG m λt=>w t*a t c
section
variable {m m' k n:Nat} {a b:Nat->Nat->Rat} {x y:Nat->Rat}
theorem d5.row (hi:i < m):d5 m a (a i):=⟨λt=>if t=i then 1 else 0,λc=>by
 rw[c6 hi λj _ ne=>by dsimp only;rw[if_neg ne];grind]
 dsimp only
 rw[if_pos rfl];grind⟩
theorem d5.lin (α β:Rat) (hx:d5 m a x) (hy:d5 m a y):d5 m a λc=>α*x c+β*y c:=by
 obtain ⟨w,hw⟩:=hx;obtain ⟨v,hv⟩:=hy;refine ⟨λt=>α*w t+β*v t,λc=>?_⟩
 dsimp only
 rw[hw c,hv c,<- cy,<- cy,<- kb];exact aJ λj _=>by grind
theorem d5.congr (h:∀c,x c=y c) (hx:d5 m a x):d5 m a y:=by obtain ⟨w,hw⟩:=hx;exact ⟨w,λc=>by rw[<- h c];exact hw c⟩
theorem d5.trans (h:∀t,t < m'->d5 m a (b t)) (hx:d5 m' b x):d5 m a x:=by
 obtain ⟨v,hv⟩:=hx
 have h2:∀t,∃w:Nat->Rat,t < m'->∀c,b t c=bG m λs=>w s*a s c:=λt=>by
  by_cases ht:t < m'
  ·obtain ⟨w,hw⟩:=h t ht;exact ⟨w,λ_=>hw⟩
  ·exact ⟨λ_=>0,λz=>absurd z ht⟩
 have hc:=Classical.axiomOfChoice h2;obtain ⟨w,hw⟩:=hc;refine ⟨λs=>bG m' λt=>v t*w t s,λc=>?_⟩;rw[hv c];have e1:bG m' (λt=>v t*b t c)=bG m' (λt=>bG m λs=>v t*(w t s*a s c)):=aJ λt ht=>by rw[hw t ht c,<- cy]
 rw[e1,eG];refine aJ λs _=>?_
 have:bG m' (λt=>v t*w t s)*a s c=a s c*bG m' (λt=>v t*w t s):=cF ..;rw[this,<- cy];exact aJ λt _=>by grind
theorem d5.zero (h:∀c,x c=0):d5 m a x:=⟨λ_=>0,λc=>by rw[h c,cB λ_ _=>by grind]⟩
end
structure AW (m n:Nat) (a:Nat->Nat->Rat) (k:Nat) (p:Nat->Nat) (R:Nat->Nat->Rat):Prop where
 inc:∀i j,i < j->j < k->p i < p j
 low:∀j,j < k->p j < n
 unit:∀i,i < k->∀j,j < k->R i (p j)=if i=j then 1 else 0
 lead:∀i,i < k->∀c,c < p i->R i c=0
 span:∀i,i < m->d5 k R (a i)
 back:∀i,i < k->d5 m a (R i)
section
variable {m m' k k' n:Nat} {a a' R R':Nat->Nat->Rat} {p p':Nat->Nat} {x:Nat->Rat}
theorem AW.coef (h:AW m n a k p R) (hx:d5 k R x) (c:Nat):x c=bG k λj=>x (p j)*R j c:=by
 obtain ⟨w,hw⟩:=hx;rw[hw c];refine aJ λj hj=>?_
 rw[hw (p j),c6 hj λt ht ne=>by rw[h.unit t ht j hj,if_neg ne];grind,h.unit j hj j hj,if_pos rfl];grind
theorem AW.lead_in (h:AW m n a k p R) (hx:d5 k R x) (h1:x c≠0) (h0:∀c',c' < c->x c'=0):∃j,j < k/\p j=c:=by
 refine Classical.byContradiction λhn=>h1 ?_
 rw[h.coef hx c];refine cB λj hj=>?_
 rcases dI (p j) c with z | z | z
 ·rw[h0 _ z];grind
 ·exact absurd ⟨j,hj,z⟩ hn
 ·rw[h.lead j hj c z];grind
theorem inc_le (h1:∀i j,i < j->j < k->p i < p j) (h2:∀i j,i < j->j < k'->p' i < p' j) (hs:∀j,j < k'->∃i,i < k/\p i=p' j):∀{j:Nat},j < k'->∀{i:Nat},i < k->p i=p' j->j<=i
 | 0,_,_,_,_=>bu _
 | j+1,hj,i,hi,e=>by
  obtain ⟨i0,hi0,e0⟩:=hs j (by lia);have:=inc_le h1 h2 hs (j:=j) (by lia) hi0 e0;have lt:=h2 j (j+1) (by lia) hj;rcases dI i0 i with z | z | z
  ·lia
  ·subst z;lia
  ·have:=h1 i i0 z hi0;lia
theorem IQ (h1:∀i j,i < j->j < k->p i < p j) (h:i<=j) (hj:j < k):p i<=p j:=by
 rcases bP i j with z | z
 ·exact aN (h1 i j z hj)
 ·have:i=j:=by lia
  rw[this];exact ak _
theorem Fq (h1:∀i j,i < j->j < k->p i < p j) (h2:∀i j,i < j->j < k'->p' i < p' j) (hs:∀j,j < k'->∃i,i < k/\p i=p' j):k'<=k/\∀j,j < k'->p j<=p' j:=by
 refine ⟨?_,λj hj=>?_⟩
 ·rcases rC k' with z | z
  ·lia
  ·obtain ⟨i,hi,e⟩:=hs (k' - 1) (by lia);have:=inc_le h1 h2 hs (j:=k' - 1) (by lia) hi e
   lia
 ·obtain ⟨i,hi,e⟩:=hs j hj;rw[<- e];exact IQ h1 (inc_le h1 h2 hs hj hi e) hi
theorem AW.uniq (h:AW m n a k p R) (h':AW m' n a' k' p' R') (s1:∀i,i < m->d5 m' a' (a i)) (s2:∀i,i < m'->d5 m a (a' i)):k=k'/\(∀j,j < k->p j=p' j)/\∀i,i < k->∀c,R i c=R' i c:=by
 have x1:∀i,i < k->d5 k' R' (R i):=λi hi=>d5.trans (λt ht=>h'.span t ht) (d5.trans s1 (h.back i hi))
 have x2:∀i,i < k'->d5 k R (R' i):=λi hi=>d5.trans (λt ht=>h.span t ht) (d5.trans s2 (h'.back i hi))
 have y1:∀j,j < k->∃i,i < k'/\p' i=p j:=λj hj=>h'.lead_in (x1 j hj) (by rw[h.unit j hj j hj,if_pos rfl];decide) (h.lead j hj)
 have y2:∀j,j < k'->∃i,i < k/\p i=p' j:=λj hj=>h.lead_in (x2 j hj) (by rw[h'.unit j hj j hj,if_pos rfl];decide) (h'.lead j hj)
 obtain ⟨z1,w1⟩:=Fq h'.inc h.inc y1;obtain ⟨z2,w2⟩:=Fq h.inc h'.inc y2;have ek:k=k':=JD z1 z2;subst ek;have ep:∀j,j < k->p j=p' j:=λj hj=>JD (w2 j hj) (w1 j hj)
 refine ⟨rfl,ep,λi hi c=>?_⟩;rw[h.coef (x2 i hi) c,c6 hi λj hj ne=>by rw[ep j hj,h'.unit i hi j hj,if_neg (λz=>ne z.symm)];grind,ep i hi,h'.unit i hi i hi,if_pos rfl];grind
end
structure jh (a:Nat->Nat->Rat) (m k P:Nat) (p:Nat->Nat) (l:Nat->Nat->Rat) (d:Rat):Prop where
 km:k<=m
 d0:d≠0
 unit:∀i,i < m->∀j,j < k->l i (p j)=if i=j then d else 0
 inc:∀i j,i < j->j < k->p i < p j
 low:∀j,j < k->p j < P
 zero:∀i,k<=i->i < m->∀c,c < P->l i c=0
 lead:∀j,j < k->∀c,c < p j->l j c=0
 there:∀i,i < m->d5 m l (a i)
 back:∀i,i < m->d5 m a (l i)
section
variable {m k n P:Nat} {a l l':Nat->Nat->Rat} {p:Nat->Nat} {d d':Rat}
theorem jh.start:jh a m 0 0 p a 1 where
 km:=bu _
 d0:=by decide
 unit _ _ j hj:=absurd hj (by lia)
 inc _ j _ hj:=absurd hj (by lia)
 low j hj:=absurd hj (by lia)
 zero _ _ _ c hc:=absurd hc (by lia)
 lead j hj:=absurd hj (by lia)
 there i hi:=d5.row hi
 back i hi:=d5.row hi
theorem jh.skip (E:jh a m k P p l d) (h:∀i,k<=i->i < m->l i P=0):jh a m k (P+1) p l d :=
 ⟨E.km,E.d0,E.unit,E.inc,λj hj=>Nat.lt_succ_of_lt (E.low j hj),λi h1 h2 c hc=>by
  by_cases e:c=P
  ·rw[e];exact h i h1 h2
  ·exact E.zero i h1 h2 c (by lia),E.lead,E.there,E.back⟩
theorem NT:iO k t (iO k t i)=i:=by
 unfold iO
 split
 ·split <;> (try split) <;> lia
 ·split
  ·rw[if_pos rfl];lia
  ·rfl
theorem jh.swap (E:jh a m k P p l d) {t:Nat} (h:k<=t) (ht:t < m):jh a m k P p (λi=>l (iO k t i)) d where
 km:=E.km
 d0:=E.d0
 unit i hi j hj:=by
  rw[E.unit _ (qo (by lia) ht hi) j hj];by_cases hk:i < k
  ·rw[rJ h hk]
  ·have:=sR h (show k<=i by lia);rw[if_neg (by lia),if_neg (by lia)]
 inc:=E.inc
 low:=E.low
 zero i h1 h2 c hc:=E.zero _ (sR h h1) (qo (by lia) ht h2) c hc
 lead j hj c hc:=by rw[rJ h hj];exact E.lead j hj c hc
 there i hi:=d5.trans (λs hs=>d5.congr (λc=>by rw[NT]) (d5.row (a:=λi=>l (iO k t i)) (i:=iO k t s) (qo (by lia) ht hs))) (E.there i hi)
 back i hi:=E.back _ (qo (by lia) ht hi)
theorem jh.step (E:jh a m k P p l d) (hk:k < m) (h0:d'≠0) (unit':∀i,i < m->∀j,j < k+1->l' i (if j=k then P else p j)=if i=j then d' else 0)
  (hl:∀i,i < m->∃β γ:Rat,β≠0/\(i=k->γ=0)/\∀c,l' i c=β*l i c+γ*l k c):jh a m (k+1) (P+1) (λj=>if j=k then P else p j) l' d' where
 km:=hk
 d0:=h0
 unit:=unit'
 inc i j hij hj:=by
  by_cases e:j=k
  ·rw[if_pos e,if_neg (by lia)];exact E.low i (by lia)
  ·rw[if_neg e,if_neg (by lia)];exact E.inc i j hij (by lia)
 low j hj:=by
  by_cases e:j=k
  ·rw[if_pos e];lia
  ·rw[if_neg e];exact Nat.lt_succ_of_lt (E.low j (by lia))
 zero i h1 h2 c hc:=by
  by_cases e:c=P
  ·have:=unit' i h2 k (by lia);rw[if_pos rfl,if_neg (by lia)] at this;rw[e];exact this
  ·obtain ⟨β,γ,_,_,q⟩:=hl i h2;rw[q c,E.zero i (by lia) h2 c (by lia),E.zero k (ak _) hk c (by lia)];grind
 lead j hj c hc:=by
  have km:=E.km;obtain ⟨β,γ,_,_,q⟩:=hl j (by lia);by_cases e:j=k
  ·rw[if_pos e] at hc;rw[q c,e,E.zero k (ak _) hk c hc];grind
  ·rw[if_neg e] at hc;have:=E.low j (by lia);rw[q c,E.lead j (by lia) c hc,E.zero k (ak _) hk c (by lia)];grind
 there i hi:=by
  refine d5.trans (λs hs=>?_) (E.there i hi);obtain ⟨β,γ,b0,_,q⟩:=hl s hs;obtain ⟨βk,γk,bk0,gk,qk⟩:=hl k hk;have g0:=gk rfl;refine d5.congr (λc=>?_) (d5.lin (1 / β) (-(γ / β) / βk) (d5.row (a:=l') hs) (d5.row (a:=l') hk));rw[q c,qk c,g0];grind
 back i hi:=by
  obtain ⟨β,γ,_,_,q⟩:=hl i hi;exact d5.congr (λc=>(q c).symm) (d5.lin β γ (E.back i hi) (E.back k hk))
theorem jh.done (E:jh a m k n p l d) (ha:∀i,i < m->∀c,n<=c->a i c=0):AW m n a k p (λi c=>l i c / d) where
 inc:=E.inc
 low:=E.low
 unit i hi j hj:=by
  have d0:=E.d0;have km:=E.km;rw[E.unit i (by lia) j hj]
  split
  ·grind
  ·grind
 lead i hi c hc:=by
  rw[E.lead i hi c hc];grind
 span i hi:=by
  have d0:=E.d0;refine d5.trans (λs hs=>?_) (E.there i hi);by_cases z:s < k
  ·refine d5.congr (λc=>?_) (d5.lin d 0 (d5.row (a:=λi c=>l i c / d) z) (d5.row (a:=λi c=>l i c / d) z));grind
  ·refine d5.zero λc=>?_
   by_cases hc:c < n
   ·exact E.zero s (by lia) hs c hc
   ·obtain ⟨w,hw⟩:=E.back s hs;rw[hw c,cB λt ht=>by rw[ha t ht c (by lia)];grind]
 back i hi:=by
  have km:=E.km;have d0:=E.d0;refine d5.congr (λc=>?_) (d5.lin (1 / d) 0 (E.back i (by lia)) (E.back i (by lia)));grind
end
def dF (ls:List (List Int)) (i c:Nat):Rat:=(((ls.getD i []).getD c 0:Int):Rat)
def bJ (rows:LR9) (i c:Nat):Rat:=(rows.getD i []).getD c 0
def mZ (ls:List (List Int)) (k t:Nat):List (List Int):=(ls.set k (ls.getD t [])).set t (ls.getD k [])
def DB (ls:List (List Int)) (k c:Nat) (b:Int):List (List Int):=(ls.map λzs=>List.zipWith (λx y=>((ls.getD k []).getD c 0*x - zs.getD c 0*y).fdiv b) zs (ls.getD k [])).set k (ls.getD k [])
section
variable {ls ls0:List (List Int)} {k t n P c:Nat} {b d:Int} {ps:List Nat}
theorem pU {α:Type} {l:List α} {x e:α} (hi:i < l.length):(l.set i x).getD j e=if j=i then x else l.getD j e:=by
 rw[aa,aa,List.getElem?_set];by_cases h:j=i
 ·subst h;rw[if_pos rfl,if_pos hi,if_pos rfl];rfl
 ·rw[if_neg (λz=>h z.symm),if_neg h]
theorem uO:(mZ ls k t).length=ls.length:=by unfold mZ;rw[dQ,dQ]
theorem Jr:(DB ls k c b).length=ls.length:=by unfold DB;rw[dQ,ag]
theorem getD_in {α:Type} {l:List α} {e:α} (h:i < l.length):l.getD i e∈l:=by
 rw[aa,af h];exact aO h
theorem EK (w:∀zs∈ls,zs.length=n) (hk:k < ls.length) (ht:t < ls.length):∀zs∈mZ ls k t,zs.length=n:=λzs hz=>by
 unfold mZ at hz;rcases cu hz with h | h
 ·rcases cu h with h | h
  ·exact w zs h
  ·rw[h];exact w _ (getD_in ht)
 ·rw[h];exact w _ (getD_in hk)
theorem FJ (w:∀zs∈ls,zs.length=n) (hk:k < ls.length):∀zs∈DB ls k c b,zs.length=n:=λzs hz=>by
 unfold DB at hz;rcases cu hz with h | h
 ·obtain ⟨y,hy,rfl⟩:=ay.mp h;rw[df,w y hy,w _ (getD_in hk)]
  lia
 ·rw[h];exact w _ (getD_in hk)
theorem tS (hk:k < ls.length) (ht:t < ls.length) (i c:Nat):dF (mZ ls k t) i c=dF ls (iO k t i) c:=by
 unfold dF mZ iO;rw[pU (by rw[dQ];exact ht),pU hk];by_cases h1:i=t
 ·rw[if_pos h1];by_cases h2:i=k
  ·rw[if_pos h2,<- h1,<- h2]
  ·rw[if_neg h2,if_pos h1]
 ·rw[if_neg h1];by_cases h2:i=k
  ·rw[if_pos h2,if_pos h2]
  ·rw[if_neg h2,if_neg h2,if_neg h1]
theorem sF (w:∀zs∈ls,zs.length=n) (hc:n<=c):dF ls i c=0:=by
 unfold dF;by_cases h:i < ls.length
 ·have:=w _ (getD_in (e:=[]) h);rw[aa (l:=ls.getD i []),aT (by lia)];rfl
 ·rw[aa (l:=ls),aT (by lia)];rfl
theorem pX {x:Int} (h:(x:Rat)=0):x=0:=by
 have:(x:Rat)=((0:Int):Rat):=h;exact dq.mp this
theorem Ex {x b:Int} (hb:b≠0) (hq:∃z:Int,q=(z:Rat)) (e:(x:Rat)=(b:Rat)*q):((x.fdiv b:Int):Rat)=q:=by
 obtain ⟨z,rfl⟩:=hq;rw[<- aS] at e;have:=dq.mp e;rw[this,Int.mul_fdiv_cancel_left _ hb]
theorem tQ (h:Fr 1 W q):∃z:Int,q=(z:Rat):=by
 obtain ⟨z,e,_⟩:=h;exact ⟨z,by rw[<- e];simp⟩
theorem sE {z:Int} (h:Fr 1 W (z:Rat)):z.natAbs<=W:=by
 obtain ⟨y,e,b⟩:=h;have:(z:Rat)=(y:Rat):=by rw[<- e];simp
 rw[dq.mp this];simpa using b
theorem Jf (w:∀zs∈ls,zs.length=n) (hk:k < ls.length) (hb:b≠0) (hi:i < ls.length) (hz:∀c,∃z:Int,(dF ls k P*dF ls i c - dF ls i P*dF ls k c) / (b:Rat)=(z:Rat)) (c:Nat) :
  dF (DB ls k P b) i c=if i=k then dF ls k c else (dF ls k P*dF ls i c - dF ls i P*dF ls k c) / (b:Rat):=by
 by_cases e:i=k
 ·rw[if_pos e];unfold dF DB;rw[pU (by rw[ag];exact hk),if_pos e]
 ·rw[if_neg e];by_cases hc:c < n
  ·have hb':(b:Rat)≠0:=λz=>hb (pX z)
   have lk:=w _ (getD_in (e:=[]) hk);have li:=w _ (getD_in (e:=[]) hi)
   have e1:dF (DB ls k P b) i c=(((((ls.getD k []).getD P 0*(ls.getD i []).getD c 0 - (ls.getD i []).getD P 0*(ls.getD k []).getD c 0).fdiv b:Int)):Rat):=by
    unfold DB;rw[dF,pU (by rw[ag];exact hk),if_neg e];rw[aa (l:=List.map _ ls),aD,af hi];show ((((List.zipWith _ ls[i] (ls.getD k [])).getD c 0:Int)):Rat)=_
    have ei:ls.getD i []=ls[i]:=by rw[aa,af hi];rfl
    rw[<- ei];rw[aa (l:=List.zipWith _ _ _),dZ,aa (l:=ls.getD i []) (i:=c),aa (l:=ls.getD k []) (i:=c),af (show c < (ls.getD i []).length by lia),af (show c < (ls.getD k []).length by lia)];rfl
   rw[e1];refine Ex hb (hz c) ?_;rw[zy,aS,aS];show _=(b:Rat)*((dF ls k P*dF ls i c - dF ls i P*dF ls k c) / (b:Rat))
   show dF ls k P*dF ls i c - dF ls i P*dF ls k c=_
   grind
  ·rw[sF (FJ w hk) (show n<=c by lia),sF w (i:=i) (show n<=c by lia),sF w (i:=k) (show n<=c by lia)];grind
end
section
variable {m k n P:Nat} {a l l2:Nat->Nat->Rat} {pm p p2:Nat->Nat} {d:Rat}
theorem uL.congr (B:uL a m k pm p l d) (hp:∀j,j < k->p2 j=p j) (hl:∀i,i < m->∀c,l2 i c=l i c):uL a m k pm p2 l2 d where
 inj:=B.inj
 rng:=B.rng
 km:=B.km
 d0:=B.d0
 det:=by rw[B.det,cw_congr (f:=λj r=>a r (p j)) (g:=λj r=>a r (p2 j)) λj hj=>by rw[hp j hj]]
 eqs i hi c:=by
  have km:=B.km;rw[B.eqs i hi c,hl i hi c];congr 1;exact aJ λj hj=>by rw[hp j hj,hl j (by lia) c]
 unit i hi j hj:=by rw[hp j hj,hl i hi];exact B.unit i hi j hj
theorem d5.rows (h:∀i,i < m->∀c,l2 i c=l i c) (hx:d5 m l x):d5 m l2 x:=by obtain ⟨w,hw⟩:=hx;exact ⟨w,λc=>by rw[hw c];exact aJ λt ht=>by rw[h t ht c]⟩
theorem jh.congr (E:jh a m k P p l d) (hp:∀j,j < k->p2 j=p j) (hl:∀i,i < m->∀c,l2 i c=l i c):jh a m k P p2 l2 d where
 km:=E.km
 d0:=E.d0
 unit i hi j hj:=by rw[hp j hj,hl i hi];exact E.unit i hi j hj
 inc i j hij hj:=by rw[hp i (by lia),hp j hj];exact E.inc i j hij hj
 low j hj:=by rw[hp j hj];exact E.low j hj
 zero i h1 h2 c hc:=by rw[hl i h2];exact E.zero i h1 h2 c hc
 lead j hj c hc:=by
  have km:=E.km;rw[hp j hj] at hc;rw[hl j (by lia)];exact E.lead j hj c hc
 there i hi:=(E.there i hi).rows hl
 back i hi:=(E.back i hi).congr λc=>(hl i hi c).symm
theorem jh.kP (E:jh a m k P p l d):k<=P:=by
 have:∀j,j < k->j<=p j:=by
  intro j
  induction j with
  | zero=>intro _;exact bu _
  | succ j ih =>
   intro hj;have:=ih (by lia);have:=E.inc j (j+1) (by lia) hj
   lia
 rcases rC k with z | z
 ·lia
 ·have h1:=this (k - 1) (by lia);have h2:=E.low (k - 1) (by lia)
  lia
end
structure AV (ls0:List (List Int)) (n P:Nat) (ls:List (List Int)) (ps:List Nat) (d:Int):Prop where
 len:ls.length=ls0.length
 wide:∀zs∈ls,zs.length=n
 bar:∃pm,uL (dF ls0) ls0.length ps.length pm (λj=>ps.getD j 0) (dF ls) d
 el:jh (dF ls0) ls0.length ps.length P (λj=>ps.getD j 0) (dF ls) d
section
variable {ls0 ls:List (List Int)} {n P:Nat} {ps:List Nat} {d:Int}
theorem AV.start (w:∀zs∈ls0,zs.length=n):AV ls0 n 0 ls0 [] 1:=⟨rfl,w,⟨λi=>i,uL.start λ_ _=>rfl⟩,jh.start⟩
theorem AV.d0 (h:AV ls0 n P ls ps d):d≠0:=λz=>h.el.d0 (by rw[z];rfl)
theorem AV.skip (h:AV ls0 n P ls ps d) (hz:∀i,ps.length<=i->i < ls.length->dF ls i P=0):AV ls0 n (P+1) ls ps d:=⟨h.len,h.wide,h.bar,h.el.skip λi h1 h2=>hz i h1 (by rw[h.len];exact h2)⟩
theorem getD_snoc (hj:j < l.length+1):(l++[x]).getD j 0=if j=l.length then x else l.getD j 0:=by
 rw[aa,aa];by_cases e:j=l.length
 ·rw[if_pos e,e,bT (ak _),kZ];rfl
 ·rw[if_neg e,cD (by lia)]
theorem AV.int (h:AV ls0 n P ls ps d) (hW:1<=W) (h0:∀i,i < ls0.length->∀c,Fr 1 W (dF ls0 i c)) (ht:ps.length<=t) (ht2:t < ls.length) (hne:dF ls t P≠0) :
  ∀i,i < ls.length->i≠ps.length->∀c,∃z:Int,(dF (mZ ls ps.length t) ps.length P*dF (mZ ls ps.length t) i c - dF (mZ ls ps.length t) i P*dF (mZ ls ps.length t) ps.length c) / (d:Rat)=(z:Rat):=λi hi ne c=>by
 obtain ⟨pm,B⟩:=h.bar;have hl:=h.len;have hk:ps.length < ls.length:=by lia
 have B1:=(B.swap ht (by lia)).congr (p2:=λj=>ps.getD j 0) (l2:=dF (mZ ls ps.length t)) (λ_ _=>rfl) (λi _ c=>tS hk ht2 i c)
 have h1:dF (mZ ls ps.length t) ps.length P≠0:=by
  rw[tS hk ht2];unfold iO;rw[if_pos rfl];exact hne
 have B2:=B1.step (c0:=P) (by lia) h1;have:=B2.fr (W:=W) (N:=ps.length+2) (by lia) hW h0 (i:=i) (c:=c) (by lia);rw[if_neg ne] at this;exact tQ this
theorem AV.step (h:AV ls0 n P ls ps d) (hW:1<=W) (h0:∀i,i < ls0.length->∀c,Fr 1 W (dF ls0 i c)) (ht:ps.length<=t) (ht2:t < ls.length) (hne:dF ls t P≠0) :
  AV ls0 n (P+1) (DB (mZ ls ps.length t) ps.length P d) (ps++[P]) (((DB (mZ ls ps.length t) ps.length P d).getD ps.length []).getD P 0):=by
 obtain ⟨pm,B⟩:=h.bar;have hl:=h.len;have hk:ps.length < ls.length:=by lia
 have hz:=h.int hW h0 ht ht2 hne;have w1:=EK h.wide hk ht2;have k1:ps.length < (mZ ls ps.length t).length:=by rw[uO];exact hk
 have B1:=(B.swap ht (by lia)).congr (p2:=λj=>ps.getD j 0) (l2:=dF (mZ ls ps.length t)) (λ_ _=>rfl) (λi _ c=>tS hk ht2 i c);have E1:=(h.el.swap ht (by lia)).congr (p2:=λj=>ps.getD j 0) (l2:=dF (mZ ls ps.length t)) (λ_ _=>rfl) (λi _ c=>tS hk ht2 i c)
 have h1:dF (mZ ls ps.length t) ps.length P≠0:=by
  rw[tS hk ht2];unfold iO;rw[if_pos rfl];exact hne
 have B2:=B1.step (c0:=P) (by lia) h1
 have fc:∀i,i < ls0.length->∀c,dF (DB (mZ ls ps.length t) ps.length P d) i c=if i=ps.length then dF (mZ ls ps.length t) ps.length c else (dF (mZ ls ps.length t) ps.length P*dF (mZ ls ps.length t) i c - dF (mZ ls ps.length t) i P*dF (mZ ls ps.length t) ps.length c) / (d:Rat):=λi hi c=>by
  by_cases e:i=ps.length
  ·rw[if_pos e];unfold dF DB;rw[pU (by rw[ag];exact k1),if_pos e]
  ·have:=Jf w1 k1 h.d0 (i:=i) (by rw[uO];lia) (hz i (by lia) e) c;rw[this]
 have ed:(((((DB (mZ ls ps.length t) ps.length P d).getD ps.length []).getD P 0:Int)):Rat)=dF (mZ ls ps.length t) ps.length P:=by
  have:=fc ps.length (by lia) P;rw[if_pos rfl] at this;exact this
 have lp:(ps++[P]).length=ps.length+1:=by rw[av];rfl
 have hp:∀j,j < ps.length+1->(ps++[P]).getD j 0=if j=ps.length then P else ps.getD j 0:=λj hj=>getD_snoc hj
 refine ⟨by rw[Jr,uO];exact hl,FJ w1 k1,⟨λi=>pm (iO ps.length t i),?_⟩,?_⟩
 ·rw[ed,lp];exact B2.congr hp fc
 ·rw[ed,lp];refine jh.congr (E1.step (d':=dF (mZ ls ps.length t) ps.length P) (l':=λi c=>if i=ps.length then dF (mZ ls ps.length t) ps.length c else (dF (mZ ls ps.length t) ps.length P*dF (mZ ls ps.length t) i c - dF (mZ ls ps.length t) i P*dF (mZ ls ps.length t) ps.length c) / (d:Rat)) (by lia) h1 B2.unit λi hi=>?_) hp fc;have d0:=h.el.d0;by_cases e:i=ps.length
  ·refine ⟨1,0,by decide,λ_=>rfl,λc=>?_⟩;rw[if_pos e,e];grind
  ·refine ⟨dF (mZ ls ps.length t) ps.length P / (d:Rat),-(dF (mZ ls ps.length t) i P) / (d:Rat),?_,λz=>absurd z e,λc=>?_⟩
   ·intro z;apply h1;grind
   ·rw[if_neg e];grind
theorem AV.sz (h:AV ls0 n P ls ps d) (hW:1<=W) (h0:∀i,i < ls0.length->∀c,Fr 1 W (dF ls0 i c)) (hP:P<=n) (hr:min ls0.length n<=r) (r15:r<=15):(d.natAbs<=(16*W)^r)/\∀zs∈ls,∀z∈zs,z.natAbs<=(16*W)^r:=by
 obtain ⟨pm,B⟩:=h.bar;have kP:=h.el.kP;have km:=B.km;have hl:=h.len;have mono:∀{s t:Nat},s<=t->(16*W)^s<=(16*W)^t:=λhs=>ao (cw (by decide) hW) hs
 refine ⟨ai (sE (B.dfr (W:=W) (N:=16) (by lia) h0)) (mono (by lia)),λzs hz z hz'=>?_⟩;obtain ⟨i,hi,rfl⟩:=aQ hz;obtain ⟨c,hc,rfl⟩:=aQ hz';have hw:=h.wide _ (aO hi)
 have ez:dF ls i c=(((ls[i])[c]:Int):Rat):=by
  unfold dF;rw[aa (l:=ls),af hi];show ((ls[i].getD c 0:Int):Rat)=_
  rw[aa,af hc];rfl
 by_cases hk:i < ps.length
 ·have:Fr 1 ((16*W)^ps.length) (dF ls i c):=by
   have hd:=B.d0;rw[B.old hk]
   have:=yQ (W:=W) (N:=16) (rs:=vf pm ps.length) (vs:=GW (λj r=>dF ls0 r (ps.getD j 0)) i ps.length++(λr=>dF ls0 r c) :: ot (λj r=>dF ls0 r (ps.getD j 0)) i) (by
    have:=congrArg List.length (cw_split (v:=λj r=>dF ls0 r (ps.getD j 0)) hk);rw[av,bx,cw_len] at this;rw[av,bx]
    lia) (by
    intro v hv r hr
    have hr':∀c,Fr 1 W (dF ls0 r c):=λc=>by
     obtain ⟨t,ht,rfl⟩:=lY hr;exact h0 _ (B.rng t (by lia)) c
    rcases au.mp hv with hv | hv
    ·obtain ⟨t,_,rfl⟩:=Dz hv;exact hr' _
    ·rcases aE.mp hv with rfl | hv
     ·exact hr' _
     ·obtain ⟨t,_,rfl⟩:=cw_in hv;exact hr' _)
   rwa [pJ] at this
  rw[ez] at this;exact ai (sE this) (mono (by lia))
 ·by_cases hn:ps.length < n
  ·have:=B.fr (W:=W) (N:=16) (by lia) hW h0 (i:=i) (c:=c) (by lia);rw[ez] at this;exact ai (sE this) (mono (by lia))
  ·have:=h.el.zero i (by lia) (by lia) c (by lia);rw[ez] at this;rw[pX this];exact bu _
end
def Tp (M W:Nat) (q:Rat):Prop:=∃z:Int,q*(M:Rat)=(z:Rat)/\z.natAbs<=W
theorem Tp.of {M V W:Nat} (h:Fr M V q) (hW:V*M<=W):Tp M W q:=by obtain ⟨z,a,b⟩:=h;exact ⟨z,a,ai b hW⟩
theorem Tp.mono (h:Tp M W q) (hW:W<=W'):Tp M W' q:=by obtain ⟨z,a,b⟩:=h;exact ⟨z,a,ai b hW⟩
theorem Tp.fr (h:Tp M W q) (h0:0 < M):Fr M W q:=by obtain ⟨z,a,b⟩:=h;exact ⟨z,a,ai b (dt _ h0)⟩
def Cs (rows:LR9) (n w:Nat):Prop:=∃M W:Nat,0 < M/\M<=2^4300/\1<=W/\W<=2^w/\(∀xs∈rows,∀x∈xs,Tp M W x)/\w<=4300/\min rows.length n<=15/\min rows.length n*(w+4)<=8900
def fH (xs:List Rat):List Int:=eS (xs.map nm) (fI (xs.map nm))
theorem mF:(fH xs).length=xs.length:=by unfold fH eS;rw[ag,ag]
theorem mP {xs:List Rat}:0 < fI (xs.map nm):=yM (by decide) λb hb=>by
 obtain ⟨n,hn,rfl⟩:=ay.mp hb;obtain ⟨x,_,rfl⟩:=ay.mp hn;exact fO x
theorem JM:(((fH xs).getD c 0:Int):Rat)=xs.getD c 0*((fI (xs.map nm):Int):Rat):=by
 unfold fH eS;rw[aa,aa,aD,aD];cases e:xs[c]? with
 | none=>show ((0:Int):Rat)=0*_;rw[kY];rfl
 | some x=>exact oR (mQ (ay.mpr ⟨x,ax e,rfl⟩))
section
variable {rows:LR9} {n w i c:Nat} {xs:List Rat}
theorem vL (hi:i < rows.length):dF (rows.map fH) i c=((fI ((rows.getD i []).map nm):Int):Rat)*bJ rows i c:=by
 unfold dF bJ
 have e:(rows.map fH).getD i []=fH (rows.getD i []):=by
  rw[aa,aa,aD,af hi];rfl
 rw[e,JM,cF]
theorem oo (hw:∀xs∈rows,xs.length=n) (hc:n<=c):bJ rows i c=0:=by
 unfold bJ;by_cases h:i < rows.length
 ·have:=hw _ (getD_in (e:=[]) h);rw[aa (l:=rows.getD i []),aT (by lia)];rfl
 ·rw[aa (l:=rows),aT (by lia)];rfl
theorem xo (i:Nat) (hi:i < rows.length):d5 rows.length (dF (rows.map fH)) (bJ rows i):=by
 have h0:((fI ((rows.getD i []).map nm):Int):Rat)≠0:=λz=>by
  have:=mP (xs:=rows.getD i []);have:=pX z
  lia
 refine d5.congr (λc=>?_) (d5.lin (1 / ((fI ((rows.getD i []).map nm):Int):Rat)) 0 (d5.row (a:=dF (rows.map fH)) hi) (d5.row (a:=dF (rows.map fH)) hi));rw[vL hi];grind
theorem xn (i:Nat) (hi:i < rows.length):d5 rows.length (bJ rows) (dF (rows.map fH) i):=by
 refine d5.congr (λc=>?_) (d5.lin ((fI ((rows.getD i []).map nm):Int):Rat) 0 (d5.row (a:=bJ rows) hi) (d5.row (a:=bJ rows) hi));rw[vL hi];grind
theorem rG (h:Tp M W x):(nm x).2∣(M:Int):=by
 obtain ⟨z,e,b⟩:=h
 exact Fr.den (V:=z.natAbs) (M:=M) ⟨z,e,by
  rcases rC M with h | h
  ·subst h;have:(z:Rat)=0:=by rw[<- e];simp
   rw[pX this];simp
  ·exact dt _ h⟩
theorem uN (h:Tp M W x) (h0:0 < M) (hB:0 < B) (d1:(nm x).2∣B) (d2:B∣(M:Int)):∃t:Int,x*(B:Rat)=(t:Rat)/\t.natAbs<=W:=by
 obtain ⟨z,e,b⟩:=h;obtain ⟨s,es⟩:=d2;refine ⟨(nm x).1*(B / (nm x).2),(oR d1).symm,?_⟩
 have s0:0 < s:=by
  rcases Int.lt_trichotomy s 0 with h | h | h
  ·have:=sL hB h
   lia
  ·rw[h] at es;lia
  ·exact h
 have e2:(((nm x).1*(B / (nm x).2)*s:Int):Rat)=(z:Rat):=by
  rw[aS,oR d1,<- e,<- aW,es,aS];grind
 have e3:=dq.mp e2;have:((nm x).1*(B / (nm x).2)).natAbs*s.natAbs=z.natAbs:=by rw[<- eC,e3]
 have h1:1<=s.natAbs:=by lia
 have:=dt ((nm x).1*(B / (nm x).2)).natAbs h1
 lia
theorem xC (h0:0 < M) (h:∀x∈xs,Tp M W x):fI (xs.map nm)∣(M:Int):=xx (by decide) (Int.one_dvd _) λb hb=>by
 obtain ⟨n,hn,rfl⟩:=ay.mp hb;obtain ⟨x,hx,rfl⟩:=ay.mp hn;exact ⟨fO x,rG (h x hx)⟩
theorem Cs.rowM (F:Cs rows n w) (hx:xs∈rows):∃M,EC M (xs.map nm):=by
 obtain ⟨M,W,h0,h1,hW,h2,h3,h4,_⟩:=F;refine ⟨M,by lia,?_,λy hy=>?_⟩
 ·show ((M:Nat):Int).natAbs < 2^4400
  rw[cR];exact bg h1 (eB (by decide) (by decide))
 ·obtain ⟨x,hx',rfl⟩:=ay.mp hy;have t:=h3 xs hx x hx';refine ⟨fO x,rG t,?_⟩;obtain ⟨s,e,b⟩:=uN t h0 (fO x) (FW _) (rG t);have e2:(((nm x).1:Int):Rat)=(s:Rat):=by rw[<- e];exact jX x
  rw[dq.mp e2];exact bg (ai b h2) (eB (by decide) (by lia))
theorem Cs.ent (F:Cs rows n w):∃W:Nat,1<=W/\W<=2^w/\∀i,i < (rows.map fH).length->∀c,Fr 1 W (dF (rows.map fH) i c):=by
 obtain ⟨M,W,h0,h1,hW,h2,h3,h4,_⟩:=F;refine ⟨W,hW,h2,λi hi c=>?_⟩;rw[ag] at hi;have hx:=getD_in (e:=[]) hi;rw[vL hi];unfold bJ;generalize rows.getD i []=xs at hx ⊢;by_cases hc:c < xs.length
 ·have t:=h3 xs hx _ (getD_in (e:=0) hc);obtain ⟨s,e,b⟩:=uN t h0 (mP (xs:=xs)) (mQ (ay.mpr ⟨_,getD_in (e:=0) hc,rfl⟩)) (xC h0 (h3 xs hx));rw[cF,e];exact Fr.int b
 ·rw[aa,aT (by lia)];show Fr 1 W (_*0)
  rw[cV];exact Fr.zero
end
def aR (rows:LR9) (n:Nat) (R:LR9) (ps:List Nat):Prop:=R.length=ps.length/\(∀xs∈R,xs.length=n)/\AW rows.length n (bJ rows) ps.length (λj=>ps.getD j 0) (bJ R)
structure Pp (rows:LR9) (n w:Nat) (R:LR9) (ps:List Nat) (d:Int) (ls:List (List Int)):Prop where
 rr:aR rows n R ps
 d0:d≠0
 len:ls.length=ps.length
 wide:∀zs∈ls,zs.length=n
 val:∀i c,dF ls i c=(d:Rat)*bJ R i c
 dsz:d.natAbs<=2^(min rows.length n*(w+4))
 zsz:∀zs∈ls,∀z∈zs,z.natAbs<=2^(min rows.length n*(w+4))
 tp:∀xs∈R,∀x∈xs,Tp d.natAbs (2^(min rows.length n*(w+4))) x
 km:ps.length<=rows.length
theorem AW.congrR {a R R2:Nat->Nat->Rat} (h:AW m n a k p R) (hr:∀i,i < k->∀c,R2 i c=R i c):AW m n a k p R2 :=
 ⟨h.inc,h.low,λi hi j hj=>by rw[hr i hi];exact h.unit i hi j hj,λi hi c hc=>by rw[hr i hi];exact h.lead i hi c hc,λi hi=>(h.span i hi).rows hr,λi hi=>(h.back i hi).congr λc=>(hr i hi c).symm⟩
theorem AW.other (h:AW m n a k p R) (s1:∀i,i < m->d5 m' a' (a i)) (s2:∀i,i < m'->d5 m a (a' i)):AW m' n a' k p R :=
 ⟨h.inc,h.low,h.unit,h.lead,λi hi=>d5.trans h.span (s2 i hi),λi hi=>d5.trans s1 (h.back i hi)⟩
theorem vn (h:W<=2^w):(16*W)^r<=2^(r*(w+4)):=by
 calc (16*W)^r<=(2^(w+4))^r:=jG (by rw[bC];lia) _
  _=2^(r*(w+4)):=by rw[<- uI,cv]
theorem AV.done (h:AV (rows.map fH) n n ls ps d) (hw:∀xs∈rows,xs.length=n) (F:Cs rows n w) :
  ∃R,Pp rows n w R ps d (ls.take ps.length):=by
 obtain ⟨W,hW,W2,ent⟩:=F.ent;obtain ⟨_,_,_,_,_,_,_,_,r15,_⟩:=F;have hl:=h.len;have d0:=h.d0;have d0':(d:Rat)≠0:=λz=>d0 (pX z)
 have km:=h.el.km;have hm:(rows.map fH).length=rows.length:=ag ..;obtain ⟨s1,s2⟩:=h.sz (r:=min rows.length n) hW ent (ak _) (by rw[hm];exact ak _) r15;have s2':∀zs∈ls,∀z∈zs,z.natAbs<=2^(min rows.length n*(w+4)):=λzs hz z hz'=>ai (s2 zs hz z hz') (vn W2)
 have er:∀i c,bJ ((ls.take ps.length).map λzs=>zs.map λ(z:Int)=>(z:Rat) / (d:Rat)) i c=dF (ls.take ps.length) i c / (d:Rat):=λi c=>by
  unfold bJ dF;rw[aa (l:=List.map _ _),aD,aa (l:=List.take _ _)];cases e:(ls.take ps.length)[i]? with
  | none=>show (0:Rat)=((0:Int):Rat) / _;grind
  | some zs =>
   show (zs.map λ(z:Int)=>(z:Rat) / (d:Rat)).getD c 0=((zs.getD c 0:Int):Rat) / (d:Rat)
   rw[aa,aa,aD];cases e2:zs[c]? with
   | none=>show (0:Rat)=((0:Int):Rat) / _;grind
   | some z=>rfl
 have et:∀i,i < ps.length->∀c,dF (ls.take ps.length) i c=dF ls i c:=λi hi c=>by
  unfold dF;rw[aa (l:=List.take _ _),jT hi,<- aa]
 have RR:=(h.el.done λi hi c hc=>sF (n:=n) (λzs hz=>by
  obtain ⟨xs,hx,rfl⟩:=ay.mp hz;rw[mF];exact hw xs hx) hc).congrR (R2:=bJ ((ls.take ps.length).map λzs=>zs.map λ(z:Int)=>(z:Rat) / (d:Rat))) λi hi c=>by rw[er,et i hi]
 rw[hm] at RR;refine ⟨(ls.take ps.length).map λzs=>zs.map λ(z:Int)=>(z:Rat) / (d:Rat),⟨by rw[ag,cN];lia,λxs hx=>?_,RR.other xn xo⟩,d0,by rw[cN];lia,λzs hz=>h.wide zs (cH hz),λi c=>?_,ai s1 (vn W2),λzs hz=>s2' zs (cH hz),λxs hx x hx'=>?_,by lia⟩
 ·obtain ⟨zs,hz,rfl⟩:=ay.mp hx;rw[ag];exact h.wide zs (cH hz)
 ·rw[er];grind
 ·obtain ⟨zs,hz,rfl⟩:=ay.mp hx;obtain ⟨z,hz',rfl⟩:=ay.mp hx';have b:=s2' zs (cH hz) z hz';rcases DM d with e | e
  ·refine ⟨z,?_,b⟩;have:((d.natAbs:Nat):Rat)=(d:Rat):=by rw[<- aW,<- e]
   rw[this];grind
  ·refine ⟨-z,?_,by rw[iQ];exact b⟩;have:((d.natAbs:Nat):Rat)=-(d:Rat):=by rw[<- aW,<- cS];congr 1;lia
   rw[this,cS];grind
theorem Jd (hl:R.length=R'.length) (w1:∀xs∈R,xs.length=n) (w2:∀xs∈R',xs.length=n) (h:∀i,i < R.length->∀c,bJ R i c=bJ R' i c):R=R':=by
 apply gB hl;intro i h1 h2;apply gB (by rw[w1 _ (aO h1),w2 _ (aO h2)]);intro c h3 h4;have:=h i h1 c;unfold bJ at this;rw[aa (l:=R),aa (l:=R'),af h1,af h2] at this;have this:(R[i]).getD c 0=(R'[i]).getD c 0:=this;rw[aa,aa,af h3,af h4] at this;exact this
theorem aR.uniq (h:aR rows n R ps) (h':aR rows' n R' ps') (s1:∀i,i < rows.length->d5 rows'.length (bJ rows') (bJ rows i)) (s2:∀i,i < rows'.length->d5 rows.length (bJ rows) (bJ rows' i)):R=R'/\ps=ps':=by
 obtain ⟨l1,w1,r1⟩:=h;obtain ⟨l2,w2,r2⟩:=h';obtain ⟨ek,ep,eR⟩:=r1.uniq r2 s1 s2;refine ⟨Jd (by lia) w1 w2 λi hi c=>eR i (by lia) c,?_⟩;apply gB ek;intro j h1 h2;have:=ep j h1;rw[aa,aa,af h1,af h2] at this;exact this
theorem aR.same (h:aR rows n R ps) (h':aR rows n R' ps'):R=R'/\ps=ps':=h.uniq h' (λ_ hi=>d5.row hi) (λ_ hi=>d5.row hi)
open PySem PySem.Spec PyProof.Rows
def FP (l:Addr) (H:Hp) (zs:List Int) (v:V):Prop:=∃q,v=V.ref q/\q≠l/\H q=some (.lst (zs.map V.int))
def pZ (l:Addr) (H:Hp) (p:Addr) (ls:List (List Int)):Prop:=p≠l/\∃xs,H p=some (.lst xs)/\Paired (FP l H) ls xs
theorem FP.same (h:FP l H zs v) (e:aF H H'):FP l H' zs v:=by obtain ⟨q,a,n,b⟩:=h;exact ⟨q,a,n,e _ _ b⟩
theorem FP.upd {l:Addr} {H:Hp} {zs:List Int} {v:V} {o:HO} (h:FP l H zs v):FP l (upd H l o) zs v:=by obtain ⟨q,a,n,b⟩:=h;exact ⟨q,a,n,by rw[br n];exact b⟩
theorem pZ.upd {l:Addr} {H:Hp} {p:Addr} {ls:List (List Int)} {o:HO} (h:pZ l H p ls):pZ l (upd H l o) p ls:=by obtain ⟨n,xs,a,b⟩:=h;exact ⟨n,xs,by rw[br n];exact a,Paired.imp' (λ_ _ z=>z.upd) b⟩
theorem ne_old {H:Hp} (h:H l≠none) (n:H r=none):r≠l:=λz=>h (by rw[<- z];exact n)
theorem gL {α β:Type} {F:α->β->Prop}:∀{l1:List α} {l2:List β} (_:Paired F l1 l2) (i:Nat) {x:α} {y:β},F x y->Paired F (l1.set i x) (l2.set i y)
 | _,_,.nil,_,_,_,_=>.nil
 | _,_,.cons _ r,0,_,_,h=>.cons h r
 | _,_,.cons a r,i+1,_,_,h=>.cons a (gL r i h)
theorem LZ (h:ls[i]?=some zs):dF ls i c=((zs.getD c 0:Int):Rat):=by
 unfold dF;rw[aa (l:=ls),h];rfl
theorem O4:((z:Int):Rat)≠0↔z≠0:=⟨λh e=>h (by rw[e];rfl),λh e=>h (pX e)⟩
theorem CC {zs:List Int} (h:c < zs.length):Ez (zs.map V.int) (c:Int)=some (V.int (zs.getD c 0)):=dS (by rw[aD,aa,af h];rfl)
inductive Ac (vs:List V) (H:Hp) (Q:VK) (E9:XK):Prop
 | mk (l p:Addr) (ls:List (List Int)) (b c:Nat):vs=[.ref p,.int b,.int c]->pZ l H p ls->ls.length<=1000->b<=1000->(∀zs∈ls,c < zs.length)->(∀t:Nat,b<=t->t < ls.length->dF ls t c≠0->Q (.int t) H)->((∀t,b<=t->t < ls.length->dF ls t c=0)->Q .non H)->Ac  vs H Q E9
inductive vQ (vs:List V) (H:Hp) (Q:VK) (E9:XK):Prop
 | mk (l p:Addr) (ls:List (List Int)) (t k:Nat):vs=[.ref p,.int t,.int k]->H l≠none->pZ l H p ls->ls.length<=1000->t < ls.length->k < ls.length->(∀r H',H r=none->aF H H'->pZ l H' r (mZ ls k t)->Q (.ref r) H')->vQ  vs H Q E9
inductive Ad (vs:List V) (H:Hp) (Q:VK) (E9:XK):Prop
 | mk (l p:Addr) (ls:List (List Int)) (k c n:Nat) (b:Int):vs=[.ref p,.int k,.int c,.int b]->H l≠none->pZ l H p ls->ls.length<=1000->k < ls.length->(∀zs∈ls,zs.length=n)->n<=1000->c < n->b≠0->Sz 8999 b->(∀zs∈ls,∀z∈zs,Sz 8999 z)->(∀r H',H r=none->aF H H'->pZ l H' r (DB ls k c b)->Q (.ref r) H')->Ad  vs H Q E9
theorem Ii (K:FG9) {X:Cx} {a b:Expr} {ta:TA} {p pos tpos:Pos} {elts:List Expr} {kk:Nat} (hg:Gl X "zip") (hm:X.mg "zip"=none) (ha:PA X [a,b] ta) (hK:X.K=K:=by rfl) (hs:starEach [a,b] X.env=[(false,eval a X.env),(false,eval b X.env)]:=by rfl) (hs2:starEach [b] X.env=[(false,eval b X.env)]:=by rfl) :
  PI X (.Tuple elts kk tpos) (.Call (.Name "zip" p) [a,b] [] pos) (M5 K ta):=by subst hK;exact xu hg hm ha hs hs2
def b9 (ps:List Nat):List V:=ps.map λ(j:Nat)=>V.int (j:Int)
inductive zX (K:FG9) (vs:List V) (H:Hp) (Q:VK) (E9:XK):Prop
 | mk (p:Addr) (n w:Nat) (H0:Hp) (rows:LR9):vs=[.ref p,.int n]->bB K H0 H p rows->rows.length<=100->n<=100->(∀xs∈rows,xs.length=n)->Cs rows n w->(∀t lp qp R ps d ls H',H' t=some (.tup [.ref lp,.ref qp])->H' qp=some (.lst (b9 ps))->pZ qp H' lp ls->aF H H'->Pp rows n w R ps d ls->Q (.ref t) H')->zX K vs H Q E9
inductive vO (K:FG9) (vs:List V) (H:Hp) (Q:VK) (E9:XK):Prop
 | mk (p:Addr) (n w:Nat) (H0:Hp) (rows:LR9):vs=[.ref p,.int n]->bB K H0 H p rows->rows.length<=100->n<=100->(∀xs∈rows,xs.length=n)->Cs rows n w->(∀r R ps M H',H r=none->aF H H'->bB K H H' r R->aR rows n R ps->ps.length<=rows.length->0 < M->M<=2^(min rows.length n*(w+4))->(∀xs∈R,∀x∈xs,Tp M (2^(min rows.length n*(w+4))) x)->Q (.ref r) H')->vO K vs H Q E9
def xl (rows:LR9) (i:Nat):Rat:=((fI ((rows.getD i []).map nm):Int):Rat)
theorem uk:xl rows i≠0:=λz=>by
 have:=mP (xs:=rows.getD i []);have:=pX z
 lia
structure xD (rows:LR9) (n P:Nat) (rs:LR9) (ps:List Nat):Prop where
 len:rs.length=rows.length
 wide:∀xs∈rs,xs.length=n
 ex:∃pm l d,uL (dF (rows.map fH)) rows.length ps.length pm (λj=>ps.getD j 0) l d/\jh (dF (rows.map fH)) rows.length ps.length P (λj=>ps.getD j 0) l d/\∀i,i < rows.length->∀c,bJ rs i c=l i c / (d*if i < ps.length then 1 else xl rows (pm i))
section
variable {rows rs rs':LR9} {n P w a:Nat} {ps:List Nat}
theorem IE {k i j:Nat} (h:d≠0):d*(if i < k then 1 else xl rows j)≠0:=by
 have:=uk (rows:=rows) (i:=j)
 split <;> grind
theorem xD.start (hw:∀xs∈rows,xs.length=n):xD rows n 0 rows []:=⟨rfl,hw,λi=>i,dF (rows.map fH),1,uL.start λ_ _=>rfl,jh.start,λi hi c=>by
 rw[vL hi,if_neg (by show ¬i < 0;lia)];have:=uk (rows:=rows) (i:=i);show bJ rows i c=xl rows i*bJ rows i c / (1*xl rows i)
 grind⟩
theorem xD.skip (h:xD rows n P rs ps) (hz:∀i,ps.length<=i->i < rs.length->bJ rs i P=0):xD rows n (P+1) rs ps:=by
 obtain ⟨len,wide,pm,l,d,B,E,v⟩:=h;refine ⟨len,wide,pm,l,d,B,E.skip λi h1 h2=>?_,v⟩;have:=v i h2 P;rw[hz i h1 (by lia)] at this;have ne:=IE (rows:=rows) (i:=i) (j:=pm i) (k:=ps.length) B.d0;generalize d*(if i < ps.length then 1 else xl rows (pm i))=D at this ne;grind
theorem xD.km (h:xD rows n P rs ps):ps.length<=rows.length/\ps.length<=P:=by obtain ⟨_,_,_,_,_,_,E,_⟩:=h;exact ⟨E.km,E.kP⟩
theorem xD.step (h:xD rows n P rs ps) (ht:ps.length<=t) (ht2:t < rs.length) (hne:bJ rs t P≠0) (l':rs'.length=rows.length) (w':∀xs∈rs',xs.length=n)
  (hv:∀i,i < rows.length->∀c,bJ rs' i c=if i=ps.length then 1 / bJ rs t P*bJ rs t c else bJ rs (iO ps.length t i) c - bJ rs (iO ps.length t i) P*(1 / bJ rs t P*bJ rs t c)):xD rows n (P+1) rs' (ps++[P]):=by
 obtain ⟨len,wide,pm,l,d,B,E,v⟩:=h;have hk:ps.length < rows.length:=by lia
 have B1:=B.swap ht (by lia);have E1:=E.swap ht (by lia);have d0:=B.d0
 have v1:∀i,i < rows.length->∀c,bJ rs (iO ps.length t i) c=l (iO ps.length t i) c / (d*if i < ps.length then 1 else xl rows (pm (iO ps.length t i))):=λi hi c=>by
  rw[v _ (qo hk (by lia) hi) c];by_cases z:i < ps.length
  ·rw[rJ ht z,if_pos z]
  ·rw[if_neg z,if_neg (by have:=sR ht (show ps.length<=i by lia);lia)]
 have sk:iO ps.length t ps.length=t:=by unfold iO;rw[if_pos rfl]
 have vt:∀c,bJ rs t c=l (iO ps.length t ps.length) c / (d*xl rows (pm (iO ps.length t ps.length))):=λc=>by
  have:=v1 ps.length hk c;rw[if_neg (by lia),sk] at this;rw[sk];exact this
 have bt:=uk (rows:=rows) (i:=pm (iO ps.length t ps.length));have h1:l (iO ps.length t ps.length) P≠0:=λz=>hne (by rw[vt P,z];grind)
 have B2:=B1.step (c0:=P) hk h1;have lp:(ps++[P]).length=ps.length+1:=by rw[av];rfl
 have hp:∀j,j < ps.length+1->(ps++[P]).getD j 0=if j=ps.length then P else ps.getD j 0:=λj hj=>getD_snoc hj
 refine ⟨l',w',λi=>pm (iO ps.length t i),_,_,by rw[lp];exact B2.congr (l2:=λi c=>if i=ps.length then l (iO ps.length t ps.length) c else (l (iO ps.length t ps.length) P*l (iO ps.length t i) c - l (iO ps.length t i) P*l (iO ps.length t ps.length) c) / d) hp (λ_ _ _=>rfl),?_,λi hi c=>?_⟩
 ·rw[lp];refine jh.congr (E1.step (d':=l (iO ps.length t ps.length) P) (l':=λi c=>if i=ps.length then l (iO ps.length t ps.length) c else (l (iO ps.length t ps.length) P*l (iO ps.length t i) c - l (iO ps.length t i) P*l (iO ps.length t ps.length) c) / d) hk h1 B2.unit λi hi=>?_) hp (λ_ _ _=>rfl);by_cases e:i=ps.length
  ·refine ⟨1,0,by decide,λ_=>rfl,λc=>?_⟩;rw[if_pos e,e];grind
  ·refine ⟨l (iO ps.length t ps.length) P / d,-(l (iO ps.length t i) P) / d,?_,λz=>absurd z e,λc=>?_⟩
   ·intro z;apply h1;grind
   ·rw[if_neg e];grind
 ·rw[hv i hi c,lp,vt c,vt P];by_cases e:i=ps.length
  ·rw[if_pos e,if_pos e,if_pos (by lia)];grind
  ·rw[if_neg e,if_neg e,v1 i hi c,v1 i hi P];have ne:=IE (rows:=rows) (i:=i) (j:=pm (iO ps.length t i)) (k:=ps.length) d0;by_cases z:i < ps.length
   ·rw[if_pos z,if_pos (by lia)];grind
   ·have bi:=uk (rows:=rows) (i:=pm (iO ps.length t i));rw[if_neg z,if_neg (by lia)];grind
theorem xD.done (h:xD rows n n rs ps) (hw:∀xs∈rows,xs.length=n):aR rows n (rs.take ps.length) ps:=by
 obtain ⟨len,wide,pm,l,d,B,E,v⟩:=h;have km:=E.km;refine ⟨by rw[cN];lia,λxs hx=>wide xs (cH hx),AW.other ((E.done λi hi c hc=>?_).congrR λi hi c=>?_) xn xo⟩
 ·exact sF (n:=n) (λzs hz=>by
   obtain ⟨xs,hx,rfl⟩:=ay.mp hz;rw[mF];exact hw xs hx) hc
 ·have e:bJ (rs.take ps.length) i c=bJ rs i c:=by
   unfold bJ;rw[aa (l:=List.take _ _),jT hi,<- aa]
  rw[e,v i (by lia) c,if_pos hi,uG]
def JA (rows:LR9) (n w a:Nat):Prop:=∃M W:Nat,0 < M/\M<=2^a/\1<=W/\W<=2^w/\(∀xs∈rows,∀x∈xs,Tp M W x)/\min rows.length n<=15/\2*(min rows.length n*(w+4)+a)<=3990
theorem JA.ent (F:JA rows n w a):∃W:Nat,1<=W/\W<=2^w/\∀i,i < rows.length->∀c,Fr 1 W (dF (rows.map fH) i c):=by
 obtain ⟨M,W,h0,h1,hW,h2,h3,_⟩:=F;refine ⟨W,hW,h2,λi hi c=>?_⟩;have hx:=getD_in (e:=[]) hi;rw[vL hi];unfold bJ;generalize rows.getD i []=xs at hx ⊢;by_cases hc:c < xs.length
 ·have t:=h3 xs hx _ (getD_in (e:=0) hc);obtain ⟨s,e,b⟩:=uN t h0 (mP (xs:=xs)) (mQ (ay.mpr ⟨_,getD_in (e:=0) hc,rfl⟩)) (xC h0 (h3 xs hx));rw[cF,e];exact Fr.int b
 ·rw[aa,aT (by lia)];show Fr 1 W (_*0)
  rw[cV];exact Fr.zero
theorem JA.bot (F:JA rows n w a) (hi:i < rows.length):∃b:Nat,0 < b/\b<=2^a/\xl rows i=(b:Rat):=by
 obtain ⟨M,W,h0,h1,hW,h2,h3,_⟩:=F;have hx:=getD_in (e:=[]) hi;have p:=mP (xs:=rows.getD i []);have dv:=xC h0 (h3 _ hx);refine ⟨(fI ((rows.getD i []).map nm)).natAbs,by lia,ai (ia h0 ?_) h1,?_⟩
 ·have:=d4.mpr dv;rwa [cR] at this
 ·unfold xl;rw[<- aW];congr 1
  lia
theorem L7 {z y:Int} (hl:l=(z:Rat)) (hD:D=(y:Rat)) (h0:D≠0) (hz:z.natAbs<=W):Tp y.natAbs W (l / D):=by
 rcases DM y with e | e
 ·refine ⟨z,?_,hz⟩;have:((y.natAbs:Nat):Rat)=D:=by rw[<- aW,<- e,hD]
  rw[this,hl];grind
 ·refine ⟨-z,?_,by rw[iQ];exact hz⟩;have:((y.natAbs:Nat):Rat)=-D:=by rw[<- aW,hD,<- cS];congr 1;lia
  rw[this,hl,cS];grind
theorem xD.sz (h:xD rows n P rs ps) (F:JA rows n w a) (hP:P<=n) (hi:i < rows.length):∃D:Nat,0 < D/\D<=2^(min rows.length n*(w+4)+a)/\∀c,Tp D (2^(min rows.length n*(w+4))) (bJ rs i c):=by
 obtain ⟨len,wide,pm,l,d,B,E,v⟩:=h;obtain ⟨W,hW,W2,ent⟩:=F.ent;obtain ⟨_,_,_,_,_,_,_,r15,_⟩:=id F;have kP:=E.kP;have km:=B.km;have mono:∀{s t:Nat},s<=t->(16*W)^s<=(16*W)^t:=λhs=>ao (cw (by decide) hW) hs
 obtain ⟨y,ey⟩:=tQ (B.dfr (W:=W) (N:=16) (by lia) ent);have hy:=B.dfr (W:=W) (N:=16) (by lia) ent;rw[ey] at hy;have yb:y.natAbs<=2^(min rows.length n*(w+4)):=ai (sE hy) (ai (mono (show ps.length<=min rows.length n by lia)) (vn W2));have y0:y≠0:=λz=>B.d0 (by rw[ey,z];rfl)
 have lb:∀c,∃z:Int,l i c=(z:Rat)/\z.natAbs<=2^(min rows.length n*(w+4)):=λc=>by
  by_cases hk:i < ps.length
  ·have f:Fr 1 ((16*W)^ps.length) (l i c):=by
    rw[B.old hk]
    have:=yQ (W:=W) (N:=16) (rs:=vf pm ps.length) (vs:=GW (λj r=>dF (rows.map fH) r (ps.getD j 0)) i ps.length++(λr=>dF (rows.map fH) r c) :: ot (λj r=>dF (rows.map fH) r (ps.getD j 0)) i) (by
     have:=congrArg List.length (cw_split (v:=λj r=>dF (rows.map fH) r (ps.getD j 0)) hk);rw[av,bx,cw_len] at this;rw[av,bx]
     lia) (by
     intro v hv r hr
     have hr':∀c,Fr 1 W (dF (rows.map fH) r c):=λc=>by
      obtain ⟨t,ht,rfl⟩:=lY hr;exact ent _ (B.rng t (by lia)) c
     rcases au.mp hv with hv | hv
     ·obtain ⟨t,_,rfl⟩:=Dz hv;exact hr' _
     ·rcases aE.mp hv with rfl | hv
      ·exact hr' _
      ·obtain ⟨t,_,rfl⟩:=cw_in hv;exact hr' _)
    rwa [pJ] at this
   obtain ⟨z,ez⟩:=tQ f;rw[ez] at f;exact ⟨z,ez,ai (sE f) (ai (mono (by lia)) (vn W2))⟩
  ·by_cases hn:ps.length < n
   ·have f:=B.fr (W:=W) (N:=16) (by lia) hW ent (i:=i) (c:=c) hi;obtain ⟨z,ez⟩:=tQ f;rw[ez] at f;exact ⟨z,ez,ai (sE f) (ai (mono (by lia)) (vn W2))⟩
   ·refine ⟨0,?_,bu _⟩;by_cases hc:c < n
    ·rw[E.zero i (by lia) hi c (by lia)];rfl
    ·have:=v i hi c;rw[oo wide (by lia)] at this;have ne:=IE (rows:=rows) (i:=i) (j:=pm i) (k:=ps.length) B.d0;generalize d*(if i < ps.length then 1 else xl rows (pm i))=D at this ne;show l i c=0
     grind
 obtain ⟨b,b0,b1,eb⟩:∃b:Nat,0 < b/\b<=2^a/\(if i < ps.length then 1 else xl rows (pm i))=(b:Rat):=by
  by_cases hk:i < ps.length
  ·exact ⟨1,by decide,bw,by rw[if_pos hk];rfl⟩
  ·obtain ⟨b,x1,x2,x3⟩:=F.bot (B.rng i hi);exact ⟨b,x1,x2,by rw[if_neg hk,x3]⟩
 have eD:d*(b:Rat)=((y*b:Int):Rat):=by rw[aS,ey,aW]
 refine ⟨(y*b).natAbs,?_,?_,λc=>?_⟩
 ·rw[eC,cR];exact cw (by lia) b0
 ·rw[eC,cR,bC];exact aI yb b1
 ·obtain ⟨z,ez,bz⟩:=lb c;rw[v i hi c,eb];refine L7 ez eD (λq=>?_) bz;rw[eD] at q;have:=pX q;rcases Int.mul_eq_zero.mp this with q | q
  ·exact y0 q
  ·lia
end
theorem rH (h:Tp M W x) (h0:0 < M) (h1:M<=2^3995) (h2:W<=2^3995):mU x:=by
 refine ⟨?_,?_⟩
 ·obtain ⟨s,e,b⟩:=uN h h0 (fO x) (FW _) (rG h);have e2:(((nm x).1:Int):Rat)=(s:Rat):=by rw[<- e];exact jX x
  rw[dq.mp e2];exact bg (ai b h2) (eB (by decide) (by decide))
 ·have:=ia h0 (kG.mp (rG h));show ((x.den:Nat):Int).natAbs < _
  rw[cR];exact bg (ai this h1) (eB (by decide) (by decide))
theorem Tp.mul (h:Tp M W x) (h':Tp M' W' y):Tp (M*M') (W*W') (x*y):=by
 obtain ⟨z,e,b⟩:=h;obtain ⟨z',e',b'⟩:=h';refine ⟨z*z',?_,by rw[eC];exact aI b b'⟩;rw[aS,<- e,<- e',zx];grind
theorem JP (h:mU x) (h0:x≠0):mU (1 / x):=by
 have n0:x.num≠0:=λz=>h0 (Rat.num_eq_zero.mp z)
 have e:=jX x;have e1:(1 / x)*(x.num:Rat)=(x.den:Rat):=by rw[e];grind
 have t:Tp x.num.natAbs x.den (1 / x):=by
  rcases DM x.num with q | q
  ·refine ⟨x.den,?_,by simp⟩;have:((x.num.natAbs:Nat):Rat)=(x.num:Rat):=by rw[<- aW,<- q]
   rw[this,e1,aW]
  ·refine ⟨-(x.den:Int),?_,by simp⟩;have:((x.num.natAbs:Nat):Rat)=-(x.num:Rat):=by rw[<- aW,<- cS];congr 1;lia
   rw[this,cS,aW,<- e1];grind
 obtain ⟨h1,h2⟩:=h;have h1:x.num.natAbs < 2^4000:=h1;have h2:((x.den:Nat):Int).natAbs < 2^4000:=h2;rw[cR] at h2;refine ⟨?_,?_⟩
 ·obtain ⟨s,e,b⟩:=uN t (by lia) (fO (1 / x)) (FW _) (rG t);have e2:(((nm (1 / x)).1:Int):Rat)=(s:Rat):=by rw[<- e];exact jX (1 / x)
  rw[dq.mp e2];exact bg b h2
 ·have:=ia (show 0 < x.num.natAbs by lia) (kG.mp (rG t));show (((1 / x).den:Nat):Int).natAbs < _
  rw[cR];exact bg this h1
section
variable {X:Cx}
def Ks:V->List V->Hp->VK->Prop:=λx vs H Q=>∃(l:Addr) (bs:List Bool) (c:Bool) (j:Nat),x=.ref l/\vs=[.bl c]/\H l=some (.lst (bs.map V.bl))/\bs[j]?=some c/\(∀m,m < j->bs[m]?≠some c)/\Q (.int (j:Int)) H
theorem EH:∀{bs:List Bool} {us:List Value},cC (bs.map V.bl) us->us=bs.map Value.bool
 | [],_,h=>by cases h;rfl
 | b :: bs,_,h=>by
  cases h with
  | cons a r =>
   cases a;rw[EH r];rfl
theorem IA:Px X "list.index" Ks:=by
 intro pins s σ H x vs v us Q I rx rv h;obtain ⟨l,bs,c,j,rfl,rfl,hH,hj,hn,q⟩:=h;cases rx;obtain ⟨u,rfl,ru⟩:=rv.one;cases ru;obtain ⟨z,its,n,r,hl,e⟩:=I.lstM hH;obtain rfl:=EH r;have jl:j < bs.length:=(aB.mp hj).1;rw[ag] at z;have big:sizeLine < 2^62:=by decide
 refine call_meets F.slot_list_index ⟨_,e,rfl⟩ F.entry_list_index (F.args_list_index_2 _ _)
  (PySem.SeqAt.list_indexAt l (bs.map Value.bool).toArray n none #[] (.bool c) (isBoolOf c) j (by simpa using jl) (by lia) ?_ ?_) ⟨e,λy hy=>?_,?_⟩
 ·have:bs[j]=c:=(aB.mp hj).2;simp [isBoolOf,this]
 ·intro m hm hmj;have hm':m < bs.length:=by simpa using hm
  have:=hn m hmj;rw[af hm'] at this;simp only[List.getElem_toArray,mX,isBoolOf];cases h1:bs[m] <;> cases c <;> simp_all
 ·have hy:y∈bs.map Value.bool:=by simpa using hy
  obtain ⟨b,_,rfl⟩:=ay.mp hy;exact PySem.SeqAt.EqAt.bool_bool b c
 ·exact ⟨.int j,H,I.tok _,⟨_,rfl⟩,q⟩
end
theorem MK (K:FG9) {X:Cx} {o e:Expr} {es:List Expr} {to:TE} {t:TA} {name:Str} {apos cpos:Pos} {T id:String} {r:V->List V->Hp->VK->Prop} (pa:PlainAttrs T) (slot:Slot T name id) (hty:typeOf (.builtin id)=pure (.type "method_descriptor")) (hm:MtR X id r) (ho:PE X o to) (ha:PA X (e :: es) t) (hK:X.K=K:=by rfl)
  (hbase:attributeBase o name X.env (eval o X.env)=eval o X.env:=by rfl)
  (hfew:((backTo cpos (starEach (e :: es) X.env)).all (λx=>!x.1) && (backToKw cpos (keywordEach [] X.env)).all (λx=>x.1.isSome)
   && decide ((e :: es).length+([]:List Keyword).length+(if ([]:List Keyword).isEmpty then 0 else 1) < 30))=true:=by rfl)
  (hline:(apos.endLine == cpos.line)=true:=by rfl) (hs:starEach (e :: es) X.env=(false,eval e X.env) :: starEach es X.env:=by rfl) (hplain:(backTo cpos (starEach es X.env)).any (·.1)=false:=by rfl) :
  PE X (.Call (.Attribute o name apos) (e :: es) [] cpos) (O7 K T r to t):=by subst hK;exact tx pa slot hty hm ho ha hbase hfew hline hs hplain
inductive xO (K:FG9) (vs:List V) (H:Hp) (Q:VK) (E9:XK):Prop
 | mk (u v:V) (x y:Rat):vs=[u,v]->cb K H x u->cb K H y v->mU x->mU y->y≠0->(∀r H',aF H H'->cb K H' (x / y) (.ref r)->Q (.ref r) H')->xO K vs H Q E9
theorem C9 {K:FG9} (h:xO K vs H Q E):JW K vs H Q E:=by
 obtain ⟨u,v,x,y,rfl,⟨p,rfl,hp⟩,⟨q,rfl,hq⟩,⟨s1,s2⟩,⟨s3,s4⟩,y0,k⟩:=h;have n0:(nm y).1≠0:=λz=>y0 (Rat.num_eq_zero.mp z)
 have px:=fO x;have py:=fO y;have e1:=nO x;have e2:=nO y;have dx:(((nm x).2:Int):Rat)≠0:=λz=>by have:=pX z;lia
 have dy:(((nm y).2:Int):Rat)≠0:=λz=>by have:=pX z;lia
 refine ⟨p,q,_,_,_,_,rfl,hp,hq,px,py,n0,s1,s2,s3,s4,λr H' s g=>k r H' s (cb.mk g ?_)⟩;by_cases hc:(nm y).1 < 0
 ·rw[if_pos hc,if_pos hc];refine oi (by have:=sL px hc;lia) ?_;rw[zy,zy,aS,aS,e1,e2];show x / y*(((0:Int):Rat) - _)=((0:Int):Rat) - _
  grind
 ·rw[if_neg hc,if_neg hc];refine oi (gE px (by lia)) ?_;rw[aS,aS,e1,e2];grind
inductive Aa (K:FG9) (vs:List V) (H:Hp) (Q:VK) (E9:XK):Prop
 | mk (p q:Addr) (xs ys:List Rat):vs=[.ref p,.ref q]->dC K H p xs->dC K H q ys->ys.length=xs.length->xs.length<=1000->(∀x∈xs,mU x)->(∀y∈ys,mU y)->(∀r H',H r=none->aF H H'->dC K H' r (List.zipWith (λx y=>x - y) xs ys)->Q (.ref r) H')->Aa K vs H Q E9
theorem M8 {xs ys:List Rat} (h:xs.length=ys.length):(List.zipWith (λx y=>x - y) xs ys).getD c 0=xs.getD c 0 - ys.getD c 0:=by
 rw[aa,aa,aa,dZ];by_cases hc:c < xs.length
 ·rw[af hc,af (show c < ys.length by lia)];rfl
 ·rw[aT (by lia),aT (by lia)];show (0:Rat)=0 - 0
  grind
theorem IY {xs:List Rat}:(xs.map λy=>q*y).getD c 0=q*xs.getD c 0:=by
 rw[aa,aa,aD];cases xs[c]? with
 | none=>show (0:Rat)=q*0;grind
 | some x=>rfl
inductive CT (K:FG9) (vs:List V) (H:Hp) (Q:VK) (E9:XK):Prop
 | mk (p:Addr) (n:Nat) (H0:Hp) (R:LR9) (ps:List Nat):vs=[.ref p]->bB K H0 H p R->R.length<=100->n<=100->(∃rows,aR rows n R ps)->(∀r H',H r=none->aF H H'->H' r=some (.lst (b9 ps))->Q (.ref r) H')->CT K vs H Q E9
theorem DQ {xs ys:List Rat} (h:ys.length=xs.length):List.zipWith (λx y=>x - y) xs ys=(List.range xs.length).map λi=>xs.getD i 0 - ys.getD i 0:=by
 apply FV;intro i;rw[dZ,aD];by_cases hi:i < xs.length
 ·rw[cT hi,af hi,af (show i < ys.length by lia)];simp [aa,af hi,af (show i < ys.length by lia)]
 ·rw[aT (show (List.range xs.length).length<=i by simp;lia),aT (show xs.length<=i by lia)];rfl
theorem vF {K:FG9} {rows:LR9} (pr:Paired (cI K H0 H) rows vs) (s:aF H H') (n:H q=none) (g:H' q=some (.lst vs)):bB K H0 H' q rows :=
 ⟨vs,g,Paired.imp' (λ_ _ z=>z.same s) pr,λz=>by
  obtain ⟨_,_,q',e,_,_,g',_⟩:=cP pr z;cases e;rw[n] at g';cases g'⟩
theorem JO:mU 1:=rH (M:=1) (W:=1) ⟨1,by simp,by decide⟩ (by decide) bw bw
theorem aR.le (h:aR rows n R ps):ps.length<=n:=by
 obtain ⟨_,_,rr⟩:=h;rcases bP n ps.length with z | z
 ·have inc:∀j,j < ps.length->j<=ps.getD j 0:=by
   intro j
   induction j with
   | zero=>intro _;exact bu _
   | succ j ih =>
    intro hj;have:=ih (by lia);have:=rr.inc j (j+1) (by lia) hj
    lia
  have h1:=inc (ps.length - 1) (by lia);have h2:=rr.low (ps.length - 1) (by lia)
  lia
 ·exact z
theorem Tp.zero:Tp M W 0:=⟨0,by simp,by simp⟩
theorem Tp.add (h:Tp M W x) (h':Tp M W' y):Tp M (W+W') (x+y):=by
 obtain ⟨z,e,b⟩:=h;obtain ⟨z',e',b'⟩:=h';refine ⟨z+z',?_,ai (Int.natAbs_add_le _ _) (Nat.add_le_add b b')⟩;rw[zz,<- e,<- e'];grind
theorem Tp.sum {M W:Nat} {f:Nat->Rat}:∀{k:Nat},(∀j,j < k->Tp M W (f j))->Tp M (k*W) (bG k f)
 | 0,_=>Tp.zero
 | k+1,h=>by
  have:=(Tp.sum (k:=k) λj hj=>h j (by lia)).add (h k (by lia));exact this.mono (by rw[jw];exact ak _)
theorem A7 {xs:List Rat} (h:∀x∈xs,Tp M W x) (c:Nat):Tp M W (xs.getD c 0):=by
 by_cases hc:c < xs.length
 ·exact h _ (getD_in hc)
 ·rw[aa,aT (by lia)];exact Tp.zero
theorem K9 (h:∀xs∈R,∀x∈xs,Tp M W x) (i c:Nat):Tp M W (bJ R i c):=by
 unfold bJ;by_cases hi:i < R.length
 ·exact A7 (h _ (getD_in hi)) c
 ·rw[aa (l:=R),aT (by lia)];exact Tp.zero
theorem GN {K:FG9} {g:TG} (Pv:Nat->List V->Hp->Prop) (hz:xs.length<=sizeLine) (h0:Pv 0 [] H) (hl:∀i ys H,i<=xs.length->Pv i ys H->bO K H l xs)
  (hs:∀i x ys H p,xs[i]?=some x->ys.length<=i->Pv i ys H->H p=none->oS σ₀ g tf te (.ref p) (upd H p (.tup [.int i,x])) (λy H'=>Pv (i+1) (ys++[y]) H') (λH'=>Pv (i+1) ys H'))
  (hd:∀ys H,ys.length<=xs.length->Pv xs.length ys H->∀p,H p=none->Q (.ref p) (upd H p (.lst ys))):p4 (Nn K l) σ₀ g tf te Q H:=by
 refine ⟨λi m ys H=>m=xs.length - i/\i<=xs.length/\ys.length<=i/\Pv i ys H,⟨xs.length,by simp,bu _,bu _,h0⟩,?_⟩;rintro i m ys H ⟨rfl,hi,hy,p⟩;have q1:=hl i ys H hi p;by_cases hlt:i < xs.length
 ·refine .inr ⟨⟨xs,xs[i],q1,by simp [hlt]⟩,by lia,λy H'=>Pv (i+1) (ys++[y]) H',λH'=>Pv (i+1) ys H',λy H' p'=>⟨xs.length - (i+1),by lia,rfl,hlt,by rw[av,bf];lia,p'⟩,λH' p'=>⟨xs.length - (i+1),by lia,rfl,hlt,by lia,p'⟩,λx H' y=>?_⟩;obtain ⟨r,x',rfl,hr,rfl,e1⟩:=y;exact hs i x' ys _ r (e1 xs q1) hy p hr
 ·have e:i=xs.length:=by lia
  subst e;exact .inl ⟨⟨xs,q1,ak _⟩,by lia,hd ys H hy p⟩
section
variable {X:Cx}
theorem GO (hc:X.calm=true):p5 X (.builtin "min") (λxs H Q=>∃(p:Addr) (ns:List Int),xs=[.ref p]/\bO X.K H p (ns.map V.int)/\0 < ns.length/\∀M,M∈ns->(∀a,a∈ns->M<=a)->Q (.int M) H):=by
 intro pins s σ H xs us Q I r h;obtain ⟨p,ns,rfl,hp,hne,q⟩:=h;obtain ⟨u,rfl,ru⟩:=vals1 r;cases ru;obtain ⟨its,r2,pl,_⟩:=I.list hp;have hi:=intsAre_of r2;have hl:=pl.isList;obtain ⟨xs,e⟩:=hi.allInts.items
 have hns:ns=xs.toList.map (·.1):=by
  rw[<- hi.numsOf,<- nums_intItems,<- e]
 have hsz:0 < xs.size:=by
  have h3:=hne;rw[hns,ag,Array.length_toList] at h3;exact h3
 rw[e] at hl;refine min_intList (I.ok.hd hc) hl hsz λv h' tk hv hk=>?_
 obtain ⟨t,rfl⟩:=intItems_at hv;obtain ⟨h1,h2⟩:=argBest_lt (numAt xs) (xs.size - 1);refine ⟨.int _,H,I.kept hk,⟨_,rfl⟩,q _ ?_ λa ha=>?_⟩
 ·rw[hns,numAt_eq];exact getD_in (by rw[ag,Array.length_toList];lia)
 ·rw[hns] at ha;obtain ⟨j,hj,rfl⟩:=mem_getD ha;rw[ag,Array.length_toList] at hj;rw[<- numAt_eq];exact h2 j (by lia)
theorem l5 (K:FG9) (hK:X.K=K):vK X (compareOp .NotIn) (rIn K true):=by subst hK;exact BF
end
theorem yO {j:Nat}:OZ (.int (j:Int)) (b9 ps)=decide (j∈ps):=by
 unfold OZ b9;rw[List.any_map,j8,List.any_eq_true,decide_eq_true_iff];constructor
 ·rintro ⟨x,hx,e⟩;have e:((x:Int) == (j:Int))=true:=e;have:(x:Int)=j:=by simpa using e
  have:x=j:=by lia
  rw[<- this];exact hx
 ·intro h;exact ⟨j,h,by show ((j:Int) == (j:Int))=true;simp⟩
theorem vz:(b9 ps).all tT=true:=by
 unfold b9;rw[List.all_map];exact mY.mpr λ_ _=>rfl
theorem iq:(b9 ps).length=ps.length:=ag ..
def pT (ps:List Nat):List Int:=ps.map λ(j:Nat)=>(j:Int)
theorem Ah:b9 ps=(pT ps).map V.int:=by unfold b9 pT;rw[lh];rfl
theorem paired_ints {K:FG9} {H:Hp}:∀{zs:List Int},Paired (λa x=>Eo.R K H x a) zs (zs.map V.int)
 | []=>.nil
 | z :: zs=>.cons rfl paired_ints
theorem qd {K:FG9} (h:H p=some (.lst (b9 ps))):(IK Eo).R K H (.ref p) (pT ps):=⟨p,b9 ps,rfl,bO.of h,by rw[Ah];exact paired_ints⟩
theorem tJ {i:Nat} (h:(b9 ps)[i]?=some v):∃j,ps[i]?=some j/\v=V.int (j:Int):=by
 unfold b9 at h;rw[aD] at h;cases e:ps[i]? with
 | none=>rw[e] at h;cases h
 | some x=>rw[e] at h;exact ⟨x,rfl,(cf h).symm⟩
def Di (xs:List Rat) (i:Nat):List Nat:=(List.range i).filter λc=>decide (xs.getD c 0≠0)
theorem xv:Di xs (i+1)=if xs.getD i 0≠0 then Di xs i++[i] else Di xs i:=by
 unfold Di;rw[oP,List.filter_append];by_cases h:xs.getD i 0≠0
 ·rw[if_pos h,OU (by simpa using h)];rfl
 ·rw[if_neg h,OV (by simpa using h)];simp
def c4 (ps:List Nat) (i:Nat):List Nat:=(List.range i).filter λc=>decide (c∉ps)
theorem kB:c4 ps (i+1)=if i∉ps then c4 ps i++[i] else c4 ps i:=by
 unfold c4;rw[oP,List.filter_append];by_cases h:i∉ps
 ·rw[if_pos h,OU (by simpa using h)];rfl
 ·rw[if_neg h,OV (by simpa using h)];simp
theorem Cd:(c4 ps i).length<=i:=by
 unfold c4;exact ai (List.length_filter_le ..) (by rw[bR];exact ak _)
inductive CS (K:FG9) (vs:List V) (H:Hp) (Q:VK) (E9:XK):Prop
 | mk (p:Addr) (xs:List Rat) (j:Nat):vs=[.ref p]->dC K H p xs->xs.length<=1000->j < xs.length->xs.getD j 0≠0->(∀c,c < j->xs.getD c 0=0)->(∀H',aF H H'->Q (.int (j:Int)) H')->CS K vs H Q E9
inductive xU (K:FG9) (vs:List V) (H:Hp) (Q:VK) (E9:XK):Prop
 | mk (p:Addr) (n:Nat) (H0:Hp) (R:LR9) (ps:List Nat):vs=[.ref p,.int n]->bB K H0 H p R->R.length<=100->n<=100->(∃rows,aR rows n R ps)->(∀r H',H r=none->aF H H'->H' r=some (.lst (b9 (c4 ps n)))->Q (.ref r) H')->xU K vs H Q E9
def Ej (R:LR9) (ps:List Nat) (n at_ j:Nat):List Rat:=(List.range n).map λc=>if c=at_ then 1 else bG j λi=>if ps.getD i 0=c then -(bJ R i at_) else 0
def tI (R:LR9) (ps:List Nat) (n at_:Nat):List Rat:=Ej R ps n at_ ps.length
def a7 (R:LR9) (ps:List Nat) (n:Nat):LR9:=(c4 ps n).map (tI R ps n)
section
variable {R rows:LR9} {ps:List Nat} {n a j:Nat}
theorem jO:(Ej R ps n a j).length=n:=by unfold Ej;rw[ag,bR]
theorem Iu (h:c < n):(Ej R ps n a j).getD c 0=if c=a then 1 else bG j λi=>if ps.getD i 0=c then -(bJ R i a) else 0:=by
 unfold Ej;rw[aa,aD,cT h];rfl
theorem Fd:Ej R ps n a 0=iN n a:=by
 unfold Ej iN;refine Cz λc _=>?_
 by_cases e:c=a
 ·subst e;simp
 ·rw[if_neg e];show (0:Rat)=_
  have:¬(c:Int)=(a:Int):=by lia
  simp [this]
theorem Fe (RR:aR rows n R ps) (hj:j < ps.length) (ha:a∉ps):(Ej R ps n a j).set (ps.getD j 0) (-(bJ R j a))=Ej R ps n a (j+1):=by
 obtain ⟨_,_,rr⟩:=RR;have low:=rr.low j hj;have pm:ps.getD j 0∈ps:=getD_in hj;apply gB (by rw[dQ,jO,jO]);intro c h1 h2;rw[jO] at h2;have e1:(Ej R ps n a j)[c]'(by rw[jO];exact h2)=if c=a then 1 else bG j λi=>if ps.getD i 0=c then -(bJ R i a) else 0:=by simp only[Ej,mX,List.getElem_range]
 have e2:(Ej R ps n a (j+1))[c]'(by rw[jO];exact h2)=if c=a then 1 else bG (j+1) λi=>if ps.getD i 0=c then -(bJ R i a) else 0:=by simp only[Ej,mX,List.getElem_range]
 rw[List.getElem_set,e2];have es:bG (j+1) (λi=>if ps.getD i 0=c then -(bJ R i a) else 0)=bG j (λi=>if ps.getD i 0=c then -(bJ R i a) else 0)+if ps.getD j 0=c then -(bJ R j a) else 0:=rfl
 by_cases q:ps.getD j 0=c
 ·rw[if_pos q,if_neg (λz=>ha (by rw[<- z,<- q];exact pm)),es,if_pos q,cB λi hi=>?_,FR];rw[if_neg];intro z;have:=rr.inc i j hi hj
  lia
 ·rw[if_neg q,e1];by_cases z:c=a
  ·rw[if_pos z,if_pos z]
  ·rw[if_neg z,if_neg z,es,if_neg q,qh]
theorem nQ (hc:c < n) (hp:c∉ps):(tI R ps n a).getD c 0=if c=a then 1 else 0:=by
 unfold tI;rw[Iu hc];by_cases e:c=a
 ·rw[if_pos e,if_pos e]
 ·rw[if_neg e,if_neg e,cB λi hi=>?_];rw[if_neg (λz=>hp (by rw[<- z];exact getD_in hi))]
theorem fv:∀{xs ys:List Rat},xs.length=ys.length->eL xs ys=bG xs.length λc=>xs.getD c 0*ys.getD c 0:=by
 intro xs ys h
 have key:∀k,k<=xs.length->eL (xs.take k) (ys.take k)=bG k λc=>xs.getD c 0*ys.getD c 0:=by
  intro k
  induction k with
  | zero=>intro _;rfl
  | succ k ih =>
   intro hk;rw[Ap (by lia) (by lia),ih (by lia)];rfl
 have:=key xs.length (ak _);rwa [aG (ak _),aG (by lia)] at this
theorem BP (RR:aR rows n R ps) (ha:a < n) (hp:a∉ps) {i:Nat} (hr:rows[i]?=some row) (hw:row.length=n):eL row (tI R ps n a)=0:=by
 obtain ⟨_,_,rr⟩:=RR;have hi:=(aB.mp hr).1;have ef:∀c,bJ rows i c=row.getD c 0:=λc=>by unfold bJ;rw[aa (l:=rows),hr];rfl
 have co:=rr.coef (rr.span i hi) a;rw[ef] at co;rw[fv (by unfold tI;rw[jO,hw]),hw]
 have e1:bG n (λc=>row.getD c 0*(tI R ps n a).getD c 0)=bG n (λc=>(if c=a then row.getD a 0 else 0)+bG ps.length λj=>if ps.getD j 0=c then row.getD (ps.getD j 0) 0*-(bJ R j a) else 0):=by
  refine aJ λc hc=>?_
  unfold tI;rw[Iu hc];by_cases e:c=a
  ·rw[if_pos e,if_pos e,e,cB λj hj=>?_]
   ·grind
   ·rw[if_neg (λz=>hp (by rw[<- z];exact getD_in hj))]
  ·rw[if_neg e,if_neg e,<- cy,FR];refine aJ λj _=>?_
   split
   ·rename_i q;rw[q]
   ·grind
 rw[e1,kb,c6 (i:=a) ha (λj _ ne=>if_neg ne),if_pos rfl,<- eG]
 have e2:bG ps.length (λj=>bG n λc=>if ps.getD j 0=c then row.getD (ps.getD j 0) 0*-(bJ R j a) else 0)=bG ps.length λj=>-1*(bJ rows i (ps.getD j 0)*bJ R j a):=by
  refine aJ λj hj=>?_
  rw[c6 (i:=ps.getD j 0) (rr.low j hj) λc _ ne=>if_neg λz=>ne z.symm,if_pos rfl,ef];grind
 rw[e2,cy,co];grind
theorem Ir (h0:0 < M) (hW:M<=W) (tp:∀xs∈R,∀x∈xs,Tp M W x) (RR:aR rows n R ps):∀x∈tI R ps n a,Tp M W x:=λx hx=>by
 obtain ⟨_,_,rr⟩:=RR;obtain ⟨c,hc,rfl⟩:=ay.mp hx
 split
 ·exact ⟨M,by rw[kE,aW],by simpa using hW⟩
 ·by_cases hp:∃j,j < ps.length/\ps.getD j 0=c
  ·obtain ⟨j,hj,e⟩:=hp;rw[c6 hj λi hi ne=>if_neg λz=>?_,if_pos e]
   ·obtain ⟨z,ez,b⟩:=K9 tp j a;exact ⟨-z,by rw[cS,<- ez];grind,by rw[iQ];exact b⟩
   ·rcases dI i j with q | q | q
    ·have:=rr.inc i j q hj;lia
    ·exact ne q
    ·have:=rr.inc j i q hi;lia
  ·rw[cB λj hj=>if_neg λz=>hp ⟨j,hj,z⟩];exact Tp.zero
theorem js:c∈c4 ps n↔c < n/\c∉ps:=by
 unfold c4;rw[j6,rD,decide_eq_true_iff]
end
inductive z6 (K:FG9) (vs:List V) (H:Hp) (Q:VK) (E9:XK):Prop
 | mk (p:Addr) (n a:Nat) (H0:Hp) (R:LR9) (ps:List Nat):vs=[.ref p,.int n,.int a]->bB K H0 H p R->R.length<=100->n<=100->(∃rows,aR rows n R ps)->a < n->a∉ps->(∀xs∈R,∀x∈xs,mU x)->(∀r H',H r=none->aF H H'->dC K H' r (tI R ps n a)->Q (.ref r) H')->z6 K vs H Q E9
theorem HF:mU 0:=rH (M:=1) (W:=1) Tp.zero (by decide) bw bw
theorem mI (h:xs∈a7 R ps n):∃a,a < n/\a∉ps/\xs=tI R ps n a:=by
 obtain ⟨a,ha,rfl⟩:=ay.mp h;obtain ⟨h1,h2⟩:=js.mp ha;exact ⟨a,h1,h2,rfl⟩
theorem FA {q:Rat} (h:q.den<=9):q.den∣2520:=by
 have:=q.den_pos;generalize q.den=d at h this;have:d=1\/d=2\/d=3\/d=4\/d=5\/d=6\/d=7\/d=8\/d=9:=by lia
 rcases this with rfl | rfl | rfl | rfl | rfl | rfl | rfl | rfl | rfl <;> decide
theorem Jk (h:Dr 9 q) (hM:2520∣M):Fr M 9 q:=(Fr.own q h.1).dvd (Nat.dvd_trans (FA h.2) hM)
section
variable {rows:LR9} {ws xs row:List Rat} {n j:Nat}
theorem MP:(rows.map λxs=>xs.getD c 0).getD i 0=bJ rows i c:=by
 unfold bJ;rw[aa,aD,aa (l:=rows)];cases rows[i]? with
 | none=>rfl
 | some y=>rfl
end
theorem Fr.up {M V M' V':Nat} (h:Fr M V x) (hd:M∣M') (hv:V<=V'):Fr M' V' x:=(h.dvd hd).mono hv
section
variable {rows R:LR9} {due:List Rat} {ps:List Nat} {n:Nat}
theorem KQ {M V D B:Nat} (h:ys.length=xs.length) (hx:∀x∈xs,Fr M V x) (hy:∀y∈ys,Fr D B y):Fr (M*D) (xs.length*(V*B)) (eL xs ys):=by
 rw[fv h.symm]
 have key:∀j,j<=xs.length->Fr (M*D) (j*(V*B)) (bG j λc=>xs.getD c 0*ys.getD c 0):=by
  intro j
  induction j with
  | zero=>intro _;exact Fr.zero
  | succ j ih =>
   intro hj;exact ((ih (by lia)).add ((hx _ (getD_in (by lia))).mul (hy _ (getD_in (by lia))))).mono (Nat.le_of_eq (jw j (V*B)).symm)
 exact key _ (ak _)
end
def qi (rows us:LR9):LR9:=List.zipWith (λx y=>x++y) rows us
def zC (A:LR9) (n:Nat):Prop:=A.length=n/\∀xs∈A,xs.length=n
def GR (A B:LR9) (n:Nat):Prop:=∀i,i < n->∀k,k < n->bG n (λj=>bJ A i j*bJ B j k)=if i=k then 1 else 0
section
variable {rows us A B R R0:LR9} {n m i c:Nat} {ps ps0:List Nat}
theorem vD (h:us.length=rows.length):(qi rows us).length=rows.length:=by unfold qi;rw[df];lia
theorem IL (h1:rows[i]?=some x) (h2:us[i]?=some y):(qi rows us)[i]?=some (x++y):=by
 unfold qi;rw[dZ,h1,h2]
theorem BY (h:∀xs∈rows,xs.length=n) (h':∀xs∈us,xs.length=m):∀xs∈qi rows us,xs.length=n+m:=λxs hx=>by
 unfold qi at hx;obtain ⟨i,hi,rfl⟩:=aQ hx;rw[oM,av,h _ (aO _),h' _ (aO _)]
theorem Fo (h:us.length=rows.length) (hw:∀xs∈rows,xs.length=n) (hi:i < rows.length):(∀c,c < n->bJ (qi rows us) i c=bJ rows i c)/\∀c,bJ (qi rows us) i (n+c)=bJ us i c:=by
 have e1:=af hi;have e2:=af (show i < us.length by lia);have e3:=IL e1 e2;have w1:=hw _ (aO hi);refine ⟨λc hc=>?_,λc=>?_⟩
 ·unfold bJ;rw[aa (l:=qi rows us),e3,aa (l:=rows),e1];show (rows[i]++us[i]).getD c 0=rows[i].getD c 0
  rw[aa,cD (by lia),aa]
 ·unfold bJ;rw[aa (l:=qi rows us),e3,aa (l:=us),e2];show (rows[i]++us[i]).getD (n+c) 0=us[i].getD c 0
  rw[aa,bT (by lia),aa,w1,show n+c - n=c by lia]
theorem xG:zC (dg n) n:=⟨by unfold dg;rw[ag,bR],λxs hx=>by
 unfold dg at hx;obtain ⟨i,_,rfl⟩:=ay.mp hx;unfold iN;rw[ag,bR]⟩
theorem K8 (hi:i < n) (hc:c < n):bJ (dg n) i c=if i=c then 1 else 0:=by
 unfold bJ dg;rw[aa (l:=List.map _ _),aD,cT hi];show (iN n i).getD c 0=_
 unfold iN;rw[aa,aD,cT hc];show (if ((c:Nat):Int)=i then (1:Rat) else 0)=_
 by_cases e:i=c
 ·rw[if_pos (by lia),if_pos e]
 ·rw[if_neg (by lia),if_neg e]
theorem sY (hi:i < n):(List.range n).getD i 0=i:=by
 rw[aa,cT hi];rfl
theorem Fz {f:Nat->Rat} (hi:i < n):bG n (λj=>f j*(if j=i then 1 else 0))=f i:=by
 rw[c6 hi λj _ hj=>by rw[if_neg hj];grind,if_pos rfl];grind
theorem IP (hA:zC A n) (hB:zC B n) (h1:GR B A n) (h2:GR A B n):aR (qi A (dg n)) (n+n) (qi (dg n) B) (List.range n):=by
 obtain ⟨lA,wA⟩:=hA;obtain ⟨lB,wB⟩:=hB;obtain ⟨lU,wU⟩:=xG (n:=n);have lJ:(qi A (dg n)).length=n:=by rw[vD (by lia),lA]
 have lK:(qi (dg n) B).length=n:=by rw[vD (by lia),lU]
 have jl:∀i,i < n->∀c,c < n->bJ (qi A (dg n)) i c=bJ A i c:=λi hi c hc=>(Fo (by lia) wA (by lia)).1 c hc
 have jr:∀i,i < n->∀c,c < n->bJ (qi A (dg n)) i (n+c)=if i=c then 1 else 0:=λi hi c hc=>by
  rw[(Fo (by lia) wA (by lia)).2 c,K8 hi hc]
 have kl:∀i,i < n->∀c,c < n->bJ (qi (dg n) B) i c=if i=c then 1 else 0:=λi hi c hc=>by
  rw[(Fo (by lia) wU (by lia)).1 c hc,K8 hi hc]
 have kr:∀i,i < n->∀c,bJ (qi (dg n) B) i (n+c)=bJ B i c:=λi hi c=>(Fo (by lia) wU (by lia)).2 c
 have wJ:=BY wA wU;have wK:=BY wU wB
 have split:∀c:Nat,c < n\/(∃d,c=n+d/\d < n)\/n+n<=c:=λc=>by
  by_cases h:c < n
  ·exact .inl h
  ·by_cases h':n+n<=c
   ·exact .inr (.inr h')
   ·exact .inr (.inl ⟨c - n,by lia,by lia⟩)
 refine ⟨by rw[lK,bR],wK,λi j hi hj=>?_,λj hj=>?_,λi hi j hj=>?_,λi hi c hc=>?_,λi hi=>⟨λj=>bJ A i j,λc=>?_⟩,λi hi=>⟨λj=>bJ B i j,λc=>?_⟩⟩
 ·rw[bR] at hj;rw[sY hj,sY (by lia)];exact hi
 ·rw[bR] at hj;rw[sY hj]
  lia
 ·rw[bR] at hi hj;rw[sY hj];exact kl i hi j hj
 ·rw[bR] at hi;rw[sY hi] at hc;rw[kl i hi c (by lia),if_neg (by lia)]
 ·rw[lJ] at hi;rw[bR];rcases split c with hc | ⟨d,rfl,hd⟩ | hc
  ·rw[jl i hi c hc,aJ (g:=λj=>bJ A i j*(if j=c then 1 else 0)) λj hj=>by rw[kl j hj c hc],Fz hc]
  ·rw[jr i hi d hd,<- h2 i hi d hd];exact aJ λj hj=>by rw[kr j hj d]
  ·rw[oo wJ hc,cB λj _=>by rw[oo wK hc];grind]
 ·rw[bR] at hi;rw[lJ];rcases split c with hc | ⟨d,rfl,hd⟩ | hc
  ·rw[kl i hi c hc,<- h1 i hi c hc];exact aJ λj hj=>by rw[jl j hj c hc]
  ·rw[kr i hi d,aJ (g:=λj=>bJ B i j*(if j=d then 1 else 0)) λj hj=>by rw[jr j hj d hd],Fz hd]
  ·rw[oo wK hc,cB λj _=>by rw[oo wJ hc];grind]
theorem KH (hA:zC A n) (hB:B.length=n):(qi A B).map (λxs=>xs.drop n)=B:=by
 obtain ⟨lA,wA⟩:=hA;apply gB (by rw[ag,vD (by lia)];lia);intro i h1 h2;have e:(qi A B)[i]?=some (A[i]'(by lia)++B[i]):=IL (af _) (af _);rw[ag] at h1;rw[mX,(aB.mp e).2];have:=wA _ (aO (show i < A.length by lia));rw[Jw (by lia),lC (by lia)];rfl
end
section
variable {X:Cx}
theorem DS:∀{n:Nat} {us:List Value},us.length=n->(∀(j:Nat) (v:Value),us[j]?=some v->∃t,v=.int ((0:Int)+(j:Int)*1) t)->cC (b9 (List.range n)) us:=by
 intro n
 induction n with
 | zero=>intro us h _;rw[List.length_eq_zero_iff.mp h];exact .nil
 | succ n ih =>
  intro us h hv
  have h1:=ih (us:=us.take n) (by rw[cN];lia) λj v e=>by
   have hj:j < n:=by have:=(aB.mp e).1;rw[cN] at this;lia
   rw[jT hj] at e;exact hv j v e
  obtain ⟨t,ht⟩:=hv n (us[n]'(by lia)) (af _);have e:us=us.take n++[us[n]'(by lia)]:=by rw[<- List.take_succ_eq_append_getElem (by lia),aG (by lia)]
  rw[e,oP];unfold b9 at h1 ⊢;rw[bK];refine cC.append h1 (.cons ?_ .nil);rw[ht];exact ⟨t,by simp⟩
def xH (ta:TA):TE:=λσ H Q=>ta σ H λvs H1=>∃n:Nat,vs=[.int n]/\n<=1000/\∀L H',aF H1 H'->H1 L=none->H' L=some (.lst (b9 (List.range n)))->Q (.ref L) H'
theorem BD {e1:Expr} {ta:TA} {p p2 pos pos2:Pos} (hg:Gl X "list") (hm:X.mg "list"=none) (hg2:Gl X "range") (hm2:X.mg "range"=none) (ha:PA X [e1] ta) (hc:X.calm=true:=by rfl)
  (hs:starEach [e1] X.env=[(false,eval e1 X.env)]:=by rfl)
  (hs3:starEach [Expr.Call (.Name "range" p2) [e1] [] pos2] X.env=[(false,eval (.Call (.Name "range" p2) [e1] [] pos2) X.env)]:=by rfl) :
  PE X (.Call (.Name "list" p) [.Call (.Name "range" p2) [e1] [] pos2] [] pos) (xH ta):=by
 intro pins s σ H Q I h;refine wpAny_Call_Name_kw (jc I hg hm boot_list ?_);refine PyProof.Rows.callWith_type1 ?_ (by rw[hs3];rfl) rfl;rw[hs3];show wpAny _ _ (spliced ((false,eval (.Call (.Name "range" p2) [e1] [] pos2) X.env) :: [])) _ _ s
 refine Calls.spliced_cons ?_;refine Call_ (jc I hg2 hm2 boot_range (PyProof.Rows.callWith_type1 (fz (ha pos2 pins s σ H _ I h) λus s1 ⟨vs,H1,I1,r1,q1⟩=>?_) hs rfl));obtain ⟨n,e,hn,q⟩:=q1;subst e;obtain ⟨u,rfl,t,rfl⟩:=vals1 r1;refine call_range_1 ?_;refine Calls.spliced_nil ?_;have kp:∀b o,s1.heap.get? b=some o->(s1.heap.push { cls:=.type "range",data:=.fields #[.int 0 s1.toks,.int n t,.int 1 (s1.toks+1)] }).get? b=some o:=λb o e=>Heap.get?_push_of_some _ e
 refine call_list_range (I.ok.hd hc) (IsRange.new ..) (small_one (by lia) (by lia) (by lia) (by lia)) (n:=n) (by rw[rangeSize_one];split <;> lia) (by lia) λh' tk acc c hk hS hacc=>?_
 have sz:s1.heap.objs.size<=(s1.heap.push { cls:=.type "range",data:=.fields #[.int 0 s1.toks,.int n t,.int 1 (s1.toks+1)] }).objs.size:=by rw[Heap.size_push];exact oJ _
 have nS:=I1.hok.fresh sz
 have vs':cC (b9 (List.range n)) acc.toList:=DS (by rw[Array.length_toList];exact hacc.1) λj v e=>by
  have:=hacc.2 j v (by rw[<- Array.getElem?_toList];exact e);exact this
 have sl:(b9 (List.range n)).length<=sizeLine:=by rw[iq,bR];exact aN (bc hn)
 refine ⟨.ref _,_,I1.laid (o:=.lst (b9 (List.range n))) (λb o e=>hk b o (kp b o e)) sz ?_,rfl,q _ _ (aF.new nS) nS aH⟩;exact ⟨sl,acc.toList,c,vs',by simpa using hS⟩
end
section
variable {A B:LR9} {n:Nat}
theorem Ox (M0:0 < M) (hM:M<=W) (h:∀xs∈A,∀x∈xs,Tp M W x):∀xs∈qi A (dg n),∀x∈xs,Tp M W x:=λxs hx x hx'=>by
 unfold qi at hx;obtain ⟨i,hi,rfl⟩:=aQ hx;rw[oM] at hx';rcases au.mp hx' with z | z
 ·exact h _ (aO _) x z
 ·have m:=aO (l:=dg n) (n:=i) (by rw[df] at hi;lia);generalize (dg n)[i]'(by rw[df] at hi;lia)=ys at m z;unfold dg at m;obtain ⟨j,_,rfl⟩:=ay.mp m;unfold iN at z;obtain ⟨c,_,rfl⟩:=ay.mp z;by_cases e:((c:Nat):Int)=((j:Nat):Int)
  ·rw[if_pos e];exact ⟨M,by rw[kE];rfl,by simpa using hM⟩
  ·rw[if_neg e];exact ⟨0,by simp,by simp⟩
theorem MX (hA:zC A n) (n15:n<=15) (M0:0 < M) (hM:M<=2^w) (w4:w<=4300) (h:∀xs∈A,∀x∈xs,Tp M (2^w) x) (hw:n*(w+4)<=8900):Cs (qi A (dg n)) (n+n) w :=
 ⟨M,2^w,M0,ai hM (ao (by decide) w4),bw,ak _,Ox M0 hM h,w4,by rw[vD (by rw[xG.1,hA.1]),hA.1];lia,by rw[vD (by rw[xG.1,hA.1]),hA.1,show min n (n+n)=n by lia];exact hw⟩
end
theorem Ds (h:pT ps=pT qs):ps=qs:=List.map_inj_right (λ_ _ e=>Int.ofNat.inj e) |>.mp h
inductive vP (K:FG9) (vs:List V) (H:Hp) (Q:VK) (E9:XK):Prop
 | mk (p:Addr) (n w:Nat) (H0:Hp) (A:LR9):vs=[.ref p]->bB K H0 H p A->zC A n->n<=40->Cs (qi A (dg n)) (n+n) w->((∀r R M H',aR (qi A (dg n)) (n+n) R (List.range n)->H r=none->aF H H'->bB K H H' r (R.map λxs=>xs.drop n)->0 < M->M<=2^(n*(w+4))->(∀xs∈R.map (λxs=>xs.drop n),∀x∈xs,Tp M (2^(n*(w+4))) x)->Q (.ref r) H')/\(∀R ps H',aR (qi A (dg n)) (n+n) R ps->ps.length<=n->ps≠List.range n->aF H H'->Q .non H'))->vP K vs H Q E9
def mD (K:FG9) (P:Addr->Prop) (H:Hp) (xs:List Rat) (v:V):Prop:=∃q,v=.ref q/\P q/\dC K H q xs
section
variable {K:FG9} {P:Addr->Prop} {H H':Hp} {xs:List Rat} {v:V} {b l:Addr}
theorem mD.same (h:mD K P H xs v) (s:aF H H'):mD K P H' xs v:=by obtain ⟨q,a,c,d⟩:=h;exact ⟨q,a,c,d.same s⟩
theorem mD.updL (h:mD K P H xs v) (hl:H l=some (.lst ys)) (nb:∀q,P q->q≠l):mD K P (upd H l o) xs v:=by obtain ⟨q,a,c,d⟩:=h;exact ⟨q,a,c,d.updL hl (nb q c)⟩
theorem bB.ofE {rows:LR9} (g:H l=some (.lst us)) (h:Paired (mD K P H) rows us) (h0:∀q,P q->H0 q=none) (hn:∀q,P q->q≠l):bB K H0 H l rows :=
 ⟨us,g,Paired.imp' (λ_ _ ⟨q,a,c,d⟩=>⟨q,a,h0 q c,d⟩) h,λz=>by
  obtain ⟨_,_,q,e,c,_⟩:=cP h z;cases e;exact hn _ c rfl⟩
end
theorem pN {α β:Type} {F G:α->β->Prop}:∀{l1:List α} {l2:List β},(∀a b,b∈l2->F a b->G a b)->Paired F l1 l2->Paired G l1 l2
 | _,_,_,.nil=>.nil
 | _,_,h,.cons a r=>.cons (h _ _ (by simp) a) (pN (λx y hy=>h x y (by simp [hy])) r)
section
variable {rows rows' R R':LR9} {n w W:Nat} {ps ps':List Nat}
theorem uP (hw:∀xs∈rows,xs.length=n) (hW:1<=W) (ent:∀i,i < (rows.map fH).length->∀c,Fr 1 W (dF (rows.map fH) i c)):∀P,P<=n->∃ls ps d,AV (rows.map fH) n P ls ps d:=by
 intro P
 induction P with
 | zero=>intro _;exact ⟨_,_,_,AV.start λzs hz=>by obtain ⟨x,hx,rfl⟩:=ay.mp hz;rw[mF];exact hw x hx⟩
 | succ P ih =>
  intro hP;obtain ⟨ls,ps,d,I⟩:=ih (by lia);by_cases e:∃t,ps.length<=t/\t < ls.length/\dF ls t P≠0
  ·obtain ⟨t,h1,h2,h3⟩:=e;exact ⟨_,_,_,I.step hW ent h1 h2 h3⟩
  ·exact ⟨_,_,_,I.skip λi h1 h2=>by
    by_cases z:dF ls i P=0
    ·exact z
    ·exact absurd ⟨i,h1,h2,z⟩ e⟩
theorem ve (hw:∀xs∈rows,xs.length=n) (F:Cs rows n w):∃R ps d ls,Pp rows n w R ps d ls:=by
 obtain ⟨W,hW,W2,ent⟩:=F.ent;obtain ⟨ls,ps,d,I⟩:=uP hw hW ent n (ak _);obtain ⟨R,S⟩:=I.done hw F;exact ⟨R,ps,d,_,S⟩
theorem Lo (hw:∀xs∈rows,xs.length=n) (F:Cs rows n w) (RR:aR rows n R ps):ps.length<=rows.length/\∃M,0 < M/\M<=2^(min rows.length n*(w+4))/\∀xs∈R,∀x∈xs,Tp M (2^(min rows.length n*(w+4))) x:=by
 obtain ⟨R2,ps2,d,ls,S⟩:=ve hw F;obtain ⟨rfl,rfl⟩:=S.rr.same RR;exact ⟨S.km,d.natAbs,Int.natAbs_pos.mpr S.d0,S.dsz,S.tp⟩
theorem GB {p q:Nat->Nat} (hp:∀i j,i < j->j < k->p i < p j) (hq:∀i j,i < j->j < k->q i < q j) (hs:∀i,i < k->∃j,j < k/\q j=p i):∀i,i < k->p i=q i:=by
 have hqm:∀i j,i<=j->j < k->q i<=q j:=λi j h hj=>by
  rcases bP i j with z | z
  ·exact aN (hq i j z hj)
  ·have:i=j:=by lia
   rw[this];exact ak _
 have hqi:∀i j,i < k->j < k->q i < q j->i < j:=λi j hi hj h=>by
  rcases bP i j with z | z
  ·exact z
  ·have:=hqm j i z hi
   lia
 have key:∀i,i < k->∀j,j < k->q j=p i->i<=j:=by
  intro i
  induction i with
  | zero=>intro _ j _ _;exact bu _
  | succ i ih =>
   intro hi j hj e;obtain ⟨j',hj',e'⟩:=hs i (by lia);have h1:=ih (by lia) j' hj' e';have h2:=hp i (i+1) (by lia) hi;have:=hqi j' j hj' hj (by lia)
   lia
 have key2:∀t i,i+t+1=k->∀j,j < k->q j=p i->j<=i:=by
  intro t
  induction t with
  | zero=>intro i e j hj _;lia
  | succ t ih =>
   intro i e j hj ej;obtain ⟨j',hj',e'⟩:=hs (i+1) (by lia);have h1:=ih (i+1) (by lia) j' hj' e';have h2:=hp i (i+1) (by lia) (by lia);have:=hqi j j' hj hj' (by lia)
   lia
 intro i hi;obtain ⟨j,hj,e⟩:=hs i hi;have h1:=key i hi j hj e;have h2:=key2 (k - 1 - i) i (by lia) j hj e;have:j=i:=by lia
 rw[<- e,this]
theorem F8 (h:aR rows n R ps) (h':aR rows' n R' ps') (hl:ps.length=ps'.length) (hs:∀i,i < ps.length->d5 ps'.length (bJ R') (bJ R i)):R=R'/\ps=ps':=by
 obtain ⟨l1,w1,r1⟩:=h;obtain ⟨l2,w2,r2⟩:=h'
 have ep:∀i,i < ps.length->ps.getD i 0=ps'.getD i 0:=GB r1.inc (by rw[hl];exact r2.inc) λi hi=>by
  have u:=r1.unit i hi i hi;rw[if_pos rfl] at u;obtain ⟨j,hj,e⟩:=r2.lead_in (hs i hi) (c:=ps.getD i 0) (by rw[u];decide) (λc hc=>r1.lead i hi c hc);exact ⟨j,by lia,e⟩
 have eps:ps=ps':=by
  apply gB hl;intro i a b;have:=ep i a;rw[aa,aa,af a,af b] at this;exact this
 refine ⟨Jd (n:=n) (by lia) w1 w2 λi hi c=>?_,eps⟩;rw[l1] at hi;rw[r2.coef (hs i hi) c,<- hl,c6 hi λj hj hj'=>?_]
 ·rw[<- ep i hi];have u:=r1.unit i hi i hi;rw[if_pos rfl] at u;rw[u];grind
 ·rw[<- ep j hj];have u:=r1.unit i hi j hj;rw[if_neg (Ne.symm hj')] at u;rw[u];grind
end
def qD (mv:LR9) (x:List Rat):List Rat:=mv.map λxs=>eL xs x
def kry (mv pt:LR9):Nat->LR9
 | 0=>[]
 | t+1=>pt++(kry mv pt t).map (qD mv)
section
variable {mv pt R R' S X Y:LR9} {n t m i c:Nat} {ps ps':List Nat} {a:Nat->Nat->Rat}
theorem yv:(qD mv x).length=mv.length:=ag ..
theorem Im (lm:mv.length=n) (wm:∀xs∈mv,xs.length=n) (wR:∀xs∈R,xs.length=n) (hi:i < R.length) (c:Nat):bJ (R.map (qD mv)) i c=bG n λj=>bJ mv c j*bJ R i j:=by
 have wi:=wR _ (aO hi);have e1:(R.map (qD mv)).getD i []=qD mv R[i]:=by rw[aa,aD,af hi];rfl
 have e2:R.getD i []=R[i]:=by rw[aa,af hi];rfl
 by_cases hc:c < n
 ·have wc:=wm _ (aO (show c < mv.length by lia));have e3:mv.getD c []=mv[c]'(by lia):=by rw[aa,af (by lia)];rfl
  have e4:(qD mv R[i]).getD c 0=eL (mv[c]'(by lia)) R[i]:=by
   unfold qD;rw[aa,aD,af (by lia)];rfl
  unfold bJ;rw[e1,e2,e3,e4,fv (by lia),wc]
 ·have e3:mv.getD c []=[]:=by rw[aa,aT (by lia)];rfl
  unfold bJ
  rw[e1,e3,aa,aT (by rw[yv];lia),cB λj _=>by
   show ([]:List Rat).getD j 0*_=0
   rw[aa];show (0:Rat)*_=0
   grind]
  rfl
theorem xJ (lm:mv.length=n) (wm:∀xs∈mv,xs.length=n) (wR:∀xs∈R,xs.length=n) (wS:∀xs∈S,xs.length=n) (hi:i < R.length) (h:d5 S.length (bJ S) (bJ R i)):d5 (S.map (qD mv)).length (bJ (S.map (qD mv))) (bJ (R.map (qD mv)) i):=by
 obtain ⟨w,hw⟩:=h;refine ⟨w,λc=>?_⟩;rw[Im lm wm wR hi,ag]
 have e1:bG n (λj=>bJ mv c j*bJ R i j)=bG n (λj=>bG S.length λs=>w s*(bJ mv c j*bJ S s j)):=aJ λj _=>by
  rw[hw j,<- cy];exact aJ λs _=>by grind
 rw[e1,eG];exact aJ λs hs=>by rw[cy,Im lm wm wS hs]
theorem vH (h:i < X.length):bJ (X++Y) i=bJ X i:=by
 funext c;unfold bJ;rw[aa (l:=X++Y),cD h,<- aa]
theorem ox:bJ (X++Y) (X.length+i)=bJ Y i:=by
 funext c;unfold bJ;rw[aa (l:=X++Y),bT (by lia),show X.length+i - X.length=i by lia,<- aa]
theorem sT (h1:∀i,i < X.length->d5 m a (bJ X i)) (h2:∀i,i < Y.length->d5 m a (bJ Y i)):∀i,i < (X++Y).length->d5 m a (bJ (X++Y) i):=λi hi=>by
 rw[av] at hi;by_cases h:i < X.length
 ·rw[vH h];exact h1 i h
 ·obtain ⟨j,rfl⟩:∃j,i=X.length+j:=⟨i - X.length,by lia⟩;rw[ox];exact h2 j (by lia)
theorem oU (h:i < X.length):d5 (X++Y).length (bJ (X++Y)) (bJ X i):=by
 have:=d5.row (a:=bJ (X++Y)) (m:=(X++Y).length) (i:=i) (by rw[av];lia);rwa [vH h] at this
theorem mG (h:d5 Y.length (bJ Y) x):d5 (X++Y).length (bJ (X++Y)) x:=d5.trans (λs hs=>by
 have:=d5.row (a:=bJ (X++Y)) (m:=(X++Y).length) (i:=X.length+s) (by rw[av];lia);rwa [ox] at this) h
theorem fq (lm:mv.length=n) (wp:∀xs∈pt,xs.length=n):∀t,∀xs∈kry mv pt t,xs.length=n:=by
 intro t
 induction t with
 | zero=>intro xs hx;cases hx
 | succ t ih =>
  intro xs hx;rcases au.mp hx with hx | hx
  ·exact wp xs hx
  ·obtain ⟨y,_,rfl⟩:=ay.mp hx;rw[yv,lm]
theorem tL (lm:mv.length=n) (wm:∀xs∈mv,xs.length=n) (wp:∀xs∈pt,xs.length=n) (RR:aR (kry mv pt t) n R ps) (RR':aR (pt++R.map (qD mv)) n R' ps'):aR (kry mv pt (t+1)) n R' ps':=by
 have wk:=fq (mv:=mv) lm wp t;refine ⟨RR'.1,RR'.2.1,RR'.2.2.other ?_ ?_⟩
 ·refine sT (λi hi=>oU hi) λi hi=>mG ?_
  rw[ag] at hi;exact xJ lm wm RR.2.1 wk hi (RR.2.2.back i (by rw[<- RR.1];exact hi))
 ·refine sT (λi hi=>oU hi) λi hi=>mG ?_
  rw[ag] at hi;have:=RR.2.2.span i hi;rw[<- RR.1] at this;exact xJ lm wm wk RR.2.1 hi this
theorem IH (lm:mv.length=n) (wm:∀xs∈mv,xs.length=n) (wp:∀xs∈pt,xs.length=n):∀t i,i < (kry mv pt t).length->d5 (kry mv pt (t+1)).length (bJ (kry mv pt (t+1))) (bJ (kry mv pt t) i):=by
 intro t
 induction t with
 | zero=>intro i hi;cases hi
 | succ t ih =>
  refine sT (λi hi=>oU hi) λi hi=>mG ?_
  rw[ag] at hi;exact xJ lm wm (fq lm wp t) (fq lm wp (t+1)) hi (ih i hi)
theorem yN (lm:mv.length=n) (wm:∀xs∈mv,xs.length=n) (wp:∀xs∈pt,xs.length=n) (RR:aR (kry mv pt t) n R ps) (RR':aR (kry mv pt (t+1)) n R' ps'):∀i,i < ps.length->d5 ps'.length (bJ R') (bJ R i):=λi hi =>
 d5.trans (λs hs=>RR'.2.2.span s hs) (d5.trans (IH lm wm wp t) (RR.2.2.back i hi))
theorem Ak (lm:mv.length=n) (wm:∀xs∈mv,xs.length=n) (wp:∀xs∈pt,xs.length=n) (RR:aR (kry mv pt t) n R ps) (RR':aR (pt++R.map (qD mv)) n R' ps') (hl:ps'.length=ps.length):∀s,aR (kry mv pt (t+s)) n R ps:=by
 have K1:=tL lm wm wp RR RR';obtain ⟨e1,e2⟩:=F8 RR K1 hl.symm (yN lm wm wp RR K1);subst e1 e2;intro s
 induction s with
 | zero=>exact RR
 | succ s ih=>exact tL lm wm wp ih RR'
theorem Dn (lm:mv.length=n) (wm:∀xs∈mv,xs.length=n) (wp:∀xs∈pt,xs.length=n) (RR:aR (kry mv pt t) n R ps) (RR':aR (kry mv pt (t+1)) n R' ps'):ps.length<=ps'.length:=by
 have h:=yN lm wm wp RR RR'
 have hs:∀i,i < ps.length->∃j,j < ps'.length/\ps'.getD j 0=ps.getD i 0:=λi hi=>by
  have u:=RR.2.2.unit i hi i hi;rw[if_pos rfl] at u;exact RR'.2.2.lead_in (h i hi) (c:=ps.getD i 0) (by rw[u];decide) (λc hc=>RR.2.2.lead i hi c hc)
 rcases bP ps'.length ps.length with z | z
 ·exfalso
  have key:∀i,i < ps.length->∀j,j < ps'.length->ps'.getD j 0=ps.getD i 0->i<=j:=by
   intro i
   induction i with
   | zero=>intro _ j _ _;exact bu _
   | succ i ih =>
    intro hi j hj e;obtain ⟨j',hj',e'⟩:=hs i (by lia);have h1:=ih (by lia) j' hj' e';have h2:=RR.2.2.inc i (i+1) (by lia) hi;rcases bP j' j with y | y
    ·lia
    ·rcases bP j j' with x | x
     ·have:=RR'.2.2.inc j j' x hj'
      lia
     ·have:j=j':=by lia
      rw[this] at e
      lia
  obtain ⟨j,hj,e⟩:=hs (ps.length - 1) (by lia);have:=key (ps.length - 1) (by lia) j hj e
  lia
 ·exact z
theorem II {M V c:Nat} (lm:mv.length=n) (wm:∀xs∈mv,xs.length=n) (wp:∀xs∈pt,xs.length=n) (hc:(n+1)*V<=2^c) (fm:GF M V mv) (fp:GF M V pt):∀t,∀xs∈kry mv pt t,∀x∈xs,Fr (M^t) (2^(c*t)) x:=by
 intro t
 induction t with
 | zero=>intro xs hx;cases hx
 | succ t ih =>
  intro xs hx x hx';have hV:V<=2^c:=ai (dJ _ (by lia)) hc;rcases au.mp hx with hx | hx
  ·refine Fr.up (fp xs hx x hx') (by rw[gH];exact xg _ _) (ai hV (ao (by decide) (dt _ (by lia))))
  ·obtain ⟨y,hy,rfl⟩:=ay.mp hx;unfold qD at hx';obtain ⟨r,hr,rfl⟩:=ay.mp hx';have wr:=wm r hr;have wy:=fq (mv:=mv) lm wp t y hy;have f:=KQ (by lia) (fm r hr) (ih y hy);rw[gH,cv (M^t)];refine f.mono ?_;rw[gD,Nat.mul_one,bC,cv (2^(c*t)),<- cx,wr];exact az _ (ai (az _ (by lia)) hc)
def mV (mv pt:LR9) (a c:Nat):Prop:=∃M V:Nat,0 < M/\M<=2^a/\(mv.length+1)*V<=2^c/\GF M V mv/\GF M V pt/\a<=400/\c<=40/\mv.length*(mv.length*(a+c)+4)<=1740/\mv.length*(mv.length*(mv.length*(a+c)+4)+a+c+4)<=8900
theorem mV.swf {a c:Nat} (F:mV mv pt a c) (D:mv.length<=8) (wm:∀xs∈mv,xs.length=mv.length) (wp:∀xs∈pt,xs.length=mv.length) (ht:t<=mv.length):Cs (kry mv pt t) mv.length (mv.length*(a+c)):=by
 obtain ⟨M,V,M0,Ma,hV,fm,fp,a3,c3,e14,e89⟩:=F;have f:=II rfl wm wp hV fm fp t;have h1:mv.length*(a+c)<=8*440:=aI D (by lia);have hM:M^t<=2^(a*mv.length):=ai (jG Ma _) (by rw[<- uI];exact ao (by decide) (bD _ ht));have h2:a*mv.length<=mv.length*(a+c):=by rw[cv];exact bD _ (by lia)
 have h3:mv.length=0\/mv.length*(a+c)<=1740:=by
  rcases rC mv.length with z | z
  ·exact .inl z
  ·right
   have:=dJ (mv.length*(a+c)+4) z
   lia
 have h4:mv.length*(a+c)<=1740:=by
  rcases h3 with z | z
  ·rw[z];lia
  ·exact z
 refine ⟨M^t,2^(mv.length*(a+c)),uH M0,ai hM (ao (by decide) (by lia)),bw,ak _,λxs hx x hx'=>Tp.of (f xs hx x hx') ?_,by lia,by lia,?_⟩
 ·refine ai (aI (ao (by decide) (bD c ht)) hM) ?_;rw[<- bC];refine ao (by decide) ?_;rw[cv c,cv a,<- gD,k6 c];exact ak _
 ·exact ai (az _ (GY _ _)) (by lia)
theorem mV.tp {a c:Nat} (F:mV mv pt a c) (D:mv.length<=8) (wm:∀xs∈mv,xs.length=mv.length) (wp:∀xs∈pt,xs.length=mv.length) (ht:t<=mv.length) (RR:aR (kry mv pt t) mv.length R ps):∃M,0 < M/\M<=2^(mv.length*(mv.length*(a+c)+4))/\∀xs∈R,∀x∈xs,Tp M (2^(mv.length*(mv.length*(a+c)+4))) x:=by
 obtain ⟨_,M,h0,h1,h2⟩:=Lo (fq rfl wp t) (F.swf D wm wp ht) RR;have le:2^(min (kry mv pt t).length mv.length*(mv.length*(a+c)+4))<=2^(mv.length*(mv.length*(a+c)+4)):=ao (by decide) (az _ (GY _ _));exact ⟨M,h0,ai h1 le,λxs hx x hx'=>(h2 xs hx x hx').mono le⟩
theorem mV.step {a c:Nat} (F:mV mv pt a c) (D:mv.length<=8) (wm:∀xs∈mv,xs.length=mv.length) (wp:∀xs∈pt,xs.length=mv.length) (ht:t<=mv.length) (RR:aR (kry mv pt t) mv.length R ps):Cs (pt++R.map (qD mv)) mv.length (mv.length*(mv.length*(a+c)+4)+a+c):=by
 obtain ⟨N,N0,N1,tN⟩:=F.tp D wm wp ht RR;obtain ⟨M,V,M0,Ma,hV,fm,fp,a3,c3,e14,e89⟩:=F;generalize mv.length*(mv.length*(a+c)+4)=e at *
 have V1:V<=2^c:=ai (dJ _ (by lia)) hV;have eW:(2:Nat)^(e+a+c)=2^c*(2^a*2^e):=by rw[<- bC,<- bC];congr 1;lia
 refine ⟨N*M,2^(e+a+c),cw N0 M0,?_,bw,ak _,λxs hx x hx'=>?_,by lia,by lia,?_⟩
 ·exact ai (aI N1 Ma) (by rw[<- bC];exact ao (by decide) (by lia))
 ·rcases au.mp hx with hx | hx
  ·refine Tp.of ((fp xs hx x hx').scaleL N) ?_;rw[eW,cv N];exact aI V1 (aI Ma N1)
  ·obtain ⟨y,hy,rfl⟩:=ay.mp hx;unfold qD at hx';obtain ⟨r,hr,rfl⟩:=ay.mp hx';have wr:=wm r hr;have wy:=RR.2.1 y hy;rw[fv (by lia),wr];have t1:∀j,Tp M (V*M) (r.getD j 0):=λj=>A7 (λx hx=>Tp.of (fm r hr x hx) (ak _)) j
   have t2:∀j,Tp N (2^e) (y.getD j 0):=λj=>A7 (tN y hy) j
   have:=Tp.sum (k:=mv.length) (M:=N*M) (W:=V*M*2^e) (f:=λj=>r.getD j 0*y.getD j 0) λj _=>by
    have:=(t1 j).mul (t2 j);rwa [cv M N] at this
   refine this.mono ?_;rw[eW,cx V,<- cx mv.length];exact aI (ai (az _ (by lia)) hV) (az _ Ma)
 ·exact ai (az _ (GY _ _)) (by rw[show e+a+c+4=e+a+c+4 from rfl];exact e89)
theorem mV.fit {a c:Nat} (F:mV mv pt a c) (D:mv.length<=8) (wm:∀xs∈mv,xs.length=mv.length) (wp:∀xs∈pt,xs.length=mv.length) (ht:t<=mv.length) (RR:aR (kry mv pt t) mv.length R ps):∀xs∈mv,∀r∈R,sI xs r:=λxs hx r hr=>by
 obtain ⟨N,N0,N1,tN⟩:=F.tp D wm wp ht RR;obtain ⟨M,V,M0,Ma,hV,fm,fp,a3,c3,e14,e89⟩:=F;have V1:V<=2^c:=ai (dJ _ (by lia)) hV;have p14:=ao (show 0 < 2 by decide) e14;exact ⟨400,40,1740,1740,⟨M,V,M0,ai Ma (ao (by decide) a3),ai V1 (ao (by decide) c3),fm xs hx⟩,⟨N,2^1740,N0,ai N1 p14,ak _,λx hx=>((tN r hr x hx).mono p14).fr N0⟩,by decide⟩
end
inductive z7 (K:FG9) (C:Addr) (vs:List V) (H:Hp) (Q:VK) (E9:XK):Prop
 | mk (x p:Addr) (H0 H1:Hp) (mv pt lk R:LR9):vs=[.ref x,.ref p]->oN K H0 H C x mv pt lk->fY mv pt lk->bB K H1 H p R->R.length<=100->(∀r∈R,r.length=mv.length)->(∀xs∈mv,∀r∈R,sI xs r)->(∀r H',H r=none->aF H H'->bB K H H' r (R.map (qD mv))->Q (.ref r) H')->z7 K C vs H Q E9
structure zv (mv pt:LR9) (Rs:List (LR9)):Prop where
 ne:Rs≠[]
 rr:∀t R,Rs[t]?=some R->∃ps,aR (kry mv pt t) mv.length R ps
 up:∀t R R',Rs[t]?=some R->Rs[t+1]?=some R'->R.length < R'.length
def GrL (K:FG9) (H0 H:Hp) (l:Addr) (Rs:List (LR9)):Prop:=∃us,H l=some (.lst us)/\Paired (λR v=>∃q,v=V.ref q/\H0 q=none/\q≠l/\bB K H0 H q R) Rs us
inductive Ab (K:FG9) (C:Addr) (vs:List V) (H:Hp) (Q:VK) (E9:XK):Prop
 | mk (x:Addr) (a c st:Nat) (H0:Hp) (mv pt lk:LR9):vs=[.ref x,.int st]->st<=1000->oN K H0 H C x mv pt lk->fY mv pt lk->mV mv pt a c->(∀r Rs H',H r=none->aF H H'->GrL K H H' r Rs->zv mv pt Rs->Rs.length<=st+1->(∀R,Rs.getLast?=some R->∀s,(Rs.length - 1=st/\s=st\/Rs.length - 1 < st/\Rs.length - 1<=s)->∃ps,aR (kry mv pt s) mv.length R ps)->Q (.ref r) H')->Ab K C vs H Q E9
inductive zY (K:FG9) (C:Addr) (vs:List V) (H:Hp) (Q:VK) (E9:XK):Prop
 | mk (x:Addr) (a c st:Nat) (H0:Hp) (mv pt lk:LR9):vs=[.ref x,.int st]->st<=1000->oN K H0 H C x mv pt lk->fY mv pt lk->mV mv pt a c->(∀r R ps H',H r=none->aF H H'->bB K H H' r R->aR (kry mv pt st) mv.length R ps->Q (.ref r) H')->zY K C vs H Q E9
section
variable {K:FG9} {H0 H1 H H':Hp} {p l:Addr} {rows mv pt R R':LR9} {Rs:List (LR9)} {t:Nat}
theorem bB.weakN (h:bB K H0 H p rows) (hn:∀q,H0 q=none->H1 q=none):bB K H1 H p rows:=by obtain ⟨xs,g,r,n⟩:=h;exact ⟨xs,g,Paired.imp' (λ_ _ ⟨q,a,b,c⟩=>⟨q,a,hn q b,c⟩) r,n⟩
theorem bB.updL (h:bB K H0 H p rows) (hl:H l=some (.lst ys)) (nl:H0 l≠none) (pl:p≠l):bB K H0 (upd H l o) p rows:=by obtain ⟨xs,g,r,n⟩:=h;exact ⟨xs,by rw[br pl];exact g,Paired.imp' (λ_ _ z=>cI.updL z hl nl) r,n⟩
theorem D6:aR [] n [] []:=⟨rfl,(λ_ h=>by cases h),(λ_ _ _ h=>absurd h (fE _)),(λ_ h=>absurd h (fE _)),(λ_ h=>absurd h (fE _)),(λ_ h=>absurd h (fE _)),(λ_ h=>absurd h (fE _)),(λ_ h=>absurd h (fE _))⟩
theorem zv.len (h:zv mv pt Rs):∀(t:Nat) (R:LR9),Rs[t]?=some R->t<=R.length:=by
 intro t
 induction t with
 | zero=>intro R _;exact bu _
 | succ t ih =>
  intro R e;have ht:=(aB.mp e).1;have e0:=af (show t < Rs.length by lia);have:=ih _ e0;have:=h.up t _ R e0 e
  lia
theorem zv.snoc (h:zv mv pt (Rs++[R])) (h1:aR (kry mv pt (Rs.length+1)) mv.length R' ps') (h2:R.length < R'.length):zv mv pt ((Rs++[R])++[R']):=by
 have l1:(Rs++[R]).length=Rs.length+1:=by rw[av];rfl
 refine ⟨by simp,λt S e=>?_,λt S S' e e'=>?_⟩
 ·rcases bP t (Rs.length+1) with z | z
  ·rw[cD (by lia)] at e;exact h.rr t S e
  ·have ht:=(aB.mp e).1;rw[av,bf] at ht;have:t=Rs.length+1:=by lia
   subst this;rw[bT (by lia),l1,kZ] at e;cases e;exact ⟨ps',h1⟩
 ·have ht:=(aB.mp e').1;rw[av,bf] at ht;rw[cD (by lia)] at e;rcases bP (t+1) (Rs.length+1) with z | z
  ·rw[cD (by lia)] at e';exact h.up t S S' e e'
  ·have:t=Rs.length:=by lia
   subst this;rw[bT (by lia),l1,kZ] at e';cases e';rw[bT (ak _),kZ] at e;cases e;exact h2
end
def oz (k t i:Nat):Nat:=if i < k then i else if i=k then t else if i<=t then i - 1 else i
def C5 (k t i:Nat):Nat:=if i < k then i else if i=t then k else if i < t then i+1 else i
section
variable {k t m i j:Nat}
theorem sV (h : k ≤ t) (ht : t < m) (hi : i < m) : oz k t i < m := by     unfold oz; split; · exact hi
                                                                          · split; · exact ht
                                                                            · split <;> lia
theorem Ob (h : k ≤ t) (ht : t < m) (hi : i < m) : C5 k t i < m := by     unfold C5; split; · exact hi
                                                                          · split; · lia
                                                                            · split <;> lia
theorem Oa (h:k<=t):oz k t (C5 k t i)=i:=by
 by_cases h1:i < k
 ·rw[show C5 k t i=i by unfold C5;rw[if_pos h1]];unfold oz;rw[if_pos h1]
 ·by_cases h2:i=t
  ·rw[show C5 k t i=k by unfold C5;rw[if_neg h1,if_pos h2]];unfold oz;rw[if_neg (by lia),if_pos rfl,h2]
  ·by_cases h3:i < t
   ·rw[show C5 k t i=i+1 by unfold C5;rw[if_neg h1,if_neg h2,if_pos h3]];unfold oz;rw[if_neg (by lia),if_neg (by lia),if_pos (by lia)];lia
   ·rw[show C5 k t i=i by unfold C5;rw[if_neg h1,if_neg h2,if_neg h3]];unfold oz;rw[if_neg h1,if_neg (by lia),if_neg (by lia)]
theorem Lp (h:k<=t):C5 k t (oz k t i)=i:=by
 by_cases h1:i < k
 ·rw[show oz k t i=i by unfold oz;rw[if_pos h1]];unfold C5;rw[if_pos h1]
 ·by_cases h2:i=k
  ·rw[show oz k t i=t by unfold oz;rw[if_neg h1,if_pos h2]];unfold C5;rw[if_neg (by lia),if_pos rfl,h2]
  ·by_cases h3:i<=t
   ·rw[show oz k t i=i - 1 by unfold oz;rw[if_neg h1,if_neg h2,if_pos h3]];unfold C5;rw[if_neg (by lia),if_neg (by lia),if_pos (by lia)];lia
   ·rw[show oz k t i=i by unfold oz;rw[if_neg h1,if_neg h2,if_neg h3]];unfold C5;rw[if_neg h1,if_neg (by lia),if_neg (by lia)]
theorem pI (hi:i < k):oz k t i=i:=by unfold oz;rw[if_pos hi]
theorem sW (h:k<=t) (hi:k<=i):k<=oz k t i:=by
 unfold oz;rw[if_neg (by lia)]
 split
 ·exact h
 ·split <;> lia
variable {a l:Nat->Nat->Rat} {pm p:Nat->Nat} {d:Rat} {P:Nat}
theorem uL.rot (B:uL a m k pm p l d) (h:k<=t) (ht:t < m):uL a m k (λi=>pm (oz k t i)) p (λi=>l (oz k t i)) d where
 inj i j hi hj e:=by
  have:=B.inj _ _ (sV h ht hi) (sV h ht hj) e;rw[<- Lp (i:=i) h,this,Lp h]
 rng i hi:=B.rng _ (sV h ht hi)
 km:=B.km
 d0:=B.d0
 det:=by rw[B.det,yh (f:=pm) (g:=λi=>pm (oz k t i)) λj hj=>by rw[pI hj]]
 eqs i hi c:=by
  have e:=B.eqs (oz k t i) (sV h ht hi) c;have e1:bG k (λj=>a (pm (oz k t i)) (p j)*l (oz k t j) c)=bG k (λj=>a (pm (oz k t i)) (p j)*l j c):=aJ λj hj=>by rw[pI hj]
  rw[e1];by_cases hk:i < k
  ·rw[pI hk] at e ⊢;exact e
  ·rw[if_neg hk];rw[if_neg (by have:=sW h (show k<=i by lia);lia)] at e;exact e
 unit i hi j hj:=by
  rw[B.unit _ (sV h ht hi) j hj];by_cases hk:i < k
  ·rw[pI hk]
  ·have:=sW h (show k<=i by lia);rw[if_neg (by lia),if_neg (by lia)]
theorem jh.rot (E:jh a m k P p l d) (h:k<=t) (ht:t < m):jh a m k P p (λi=>l (oz k t i)) d where
 km:=E.km
 d0:=E.d0
 unit i hi j hj:=by
  rw[E.unit _ (sV h ht hi) j hj];by_cases hk:i < k
  ·rw[pI hk]
  ·have:=sW h (show k<=i by lia);rw[if_neg (by lia),if_neg (by lia)]
 inc:=E.inc
 low:=E.low
 zero i h1 h2 c hc:=E.zero _ (sW h h1) (sV h ht h2) c hc
 lead j hj c hc:=by rw[pI hj];exact E.lead j hj c hc
 there i hi:=d5.trans (λs hs=>d5.congr (λc=>by rw[Oa h]) (d5.row (a:=λi=>l (oz k t i)) (i:=C5 k t s) (Ob h ht hs))) (E.there i hi)
 back i hi:=E.back _ (sV h ht hi)
end
section
variable {rows fs ls:LR9} {n P w a:Nat} {ps:List Nat}
theorem JQ:iO k k i=i:=by unfold iO;split <;> (try split) <;> lia
theorem xD.rot (h:xD rows n P (fs++ls) ps) (hf:fs.length=ps.length) (ht:t < ls.length):xD rows n P (fs++ls.getD t [] :: ls.eraseIdx t) ps:=by
 obtain ⟨len,wide,pm,l,d,B,E,v⟩:=h;rw[av] at len;have h1:ps.length<=ps.length+t:=by lia
 have h2:ps.length+t < rows.length:=by lia
 have ef:∀i,i < rows.length->∀c,bJ (fs++ls.getD t [] :: ls.eraseIdx t) i c=bJ (fs++ls) (oz ps.length (ps.length+t) i) c:=λi hi c=>by
  by_cases z:i < ps.length
  ·rw[pI z,vH (by lia),vH (by lia)]
  ·obtain ⟨j,rfl⟩:∃j,i=fs.length+j:=⟨i - fs.length,by lia⟩;rw[ox];cases j with
   | zero =>
    rw[show oz ps.length (ps.length+t) (fs.length+0)=fs.length+t by unfold oz;rw[if_neg (by lia),if_pos (by lia)];lia,ox];rfl
   | succ j =>
    by_cases y:j < t
    ·rw[show oz ps.length (ps.length+t) (fs.length+(j+1))=fs.length+j by unfold oz;rw[if_neg (by lia),if_neg (by lia),if_pos (by lia)];lia,ox];show bJ (ls.eraseIdx t) j c=_
     unfold bJ;rw[aa (l:=ls.eraseIdx t),List.getElem?_eraseIdx_of_lt y,<- aa]
    ·rw[show oz ps.length (ps.length+t) (fs.length+(j+1))=fs.length+(j+1) by unfold oz;rw[if_neg (by lia),if_neg (by lia),if_neg (by lia)],ox];show bJ (ls.eraseIdx t) j c=_
     unfold bJ;rw[aa (l:=ls.eraseIdx t),List.getElem?_eraseIdx_of_ge (by lia),<- aa]
 refine ⟨?_,λxs hx=>?_,λi=>pm (oz ps.length (ps.length+t) i),λi=>l (oz ps.length (ps.length+t) i),d,B.rot h1 h2,E.rot h1 h2,λi hi c=>?_⟩
 ·rw[av,bx,LX ht];lia
 ·rcases au.mp hx with hx | hx
  ·exact wide xs (au.mpr (.inl hx))
  ·rcases aE.mp hx with rfl | hx
   ·exact wide _ (au.mpr (.inr (getD_in ht)))
   ·exact wide xs (au.mpr (.inr (NB hx)))
 ·rw[ef i hi c,v _ (sV h1 h2 hi) c];by_cases z:i < ps.length
  ·dsimp only
   rw[pI z]
  ·rw[if_neg z,if_neg (by have:=sW h1 (show ps.length<=i by lia);lia)]
def kR (P:Nat) (h:List Rat):List Rat:=h.map λy=>1 / h.getD P 0*y
def xj (P:Nat) (u r:List Rat):List Rat:=List.zipWith (λx y=>x - y) r (u.map λy=>r.getD P 0*y)
theorem xD.lean (h:xD rows n P (fs++ls) ps) (hf:fs.length=ps.length) (ht:t < ls.length) (hP:P < n) (hne:(ls.getD t []).getD P 0≠0):xD rows n (P+1) ((fs.map (xj P (kR P (ls.getD t [])) )++[kR P (ls.getD t [])])++(ls.eraseIdx t).map (xj P (kR P (ls.getD t [])))) (ps++[P]):=by
 have R:=h.rot hf ht;have len:=R.len;have wide:=R.wide;generalize ls.getD t []=hd at *
 generalize ls.eraseIdx t=l2 at *
 rw[av,bx] at len;have whd:hd.length=n:=wide _ (au.mpr (.inr (.head _)));have wu:(kR P hd).length=n:=by unfold kR;rw[ag];exact whd
 have ek:bJ (fs++hd :: l2) ps.length=λc=>hd.getD c 0:=by
  have:=ox (X:=fs) (Y:=hd :: l2) (i:=0);rw[show fs.length+0=ps.length by lia] at this;rw[this];rfl
 have wl:∀r,r.length=n->(xj P (kR P hd) r).length=n:=λr hr=>by unfold xj;rw[df,ag,wu,hr];lia
 have vl:∀r,r.length=n->∀c,(xj P (kR P hd) r).getD c 0=r.getD c 0 - r.getD P 0*(1 / hd.getD P 0*hd.getD c 0):=λr hr c=>by
  unfold xj;rw[M8 (by rw[ag,wu,hr]),IY];unfold kR;rw[IY]
 refine R.step (t:=ps.length) (ak _) (by rw[av,bx];lia) (by rw[ek];exact hne) ?_ ?_ λi hi c=>?_
 ·rw[av,av,ag,ag,bf];lia
 ·intro xs hx;rcases au.mp hx with hx | hx
  ·rcases au.mp hx with hx | hx
   ·obtain ⟨r,hr,rfl⟩:=ay.mp hx;exact wl r (wide r (au.mpr (.inl hr)))
   ·rw[cz.mp hx];exact wu
  ·obtain ⟨r,hr,rfl⟩:=ay.mp hx;exact wl r (wide r (au.mpr (.inr (.tail _ hr))))
 ·rw[JQ,ek]
  dsimp only
  have lf:(fs.map (xj P (kR P hd))).length=ps.length:=by rw[ag];exact hf
  have key:∀{X:LR9} {s:Nat} (hs:s < X.length) (_:∀r∈X,r.length=n),bJ (X.map (xj P (kR P hd))) s c=bJ X s c - bJ X s P*(1 / hd.getD P 0*hd.getD c 0):=λ{X s} hs hX=>by
   unfold bJ;have e1:(X.map (xj P (kR P hd))).getD s []=xj P (kR P hd) X[s]:=by rw[aa,aD,af hs];rfl
   have e2:X.getD s []=X[s]:=by rw[aa,af hs];rfl
   rw[e1,e2];exact vl _ (hX _ (aO hs)) c
  rcases dI i ps.length with z | z | z
  ·rw[if_neg (by lia),b8,vH (by lia),vH (by lia),key (by lia) λr hr=>wide r (au.mpr (.inl hr))]
  ·rw[if_pos z,b8,show i=(fs.map (xj P (kR P hd))).length+0 by lia,ox];show (kR P hd).getD c 0=_
   unfold kR;rw[IY]
  ·rw[if_neg (by lia)];obtain ⟨j,rfl⟩:∃j,i=ps.length+1+j:=⟨i - ps.length - 1,by lia⟩
   have e1:bJ (fs++hd :: l2) (ps.length+1+j)=bJ l2 j:=by
    have:=ox (X:=fs) (Y:=hd :: l2) (i:=j+1);rw[show fs.length+(j+1)=ps.length+1+j by lia] at this;rw[this];rfl
   have e2:bJ ((fs.map (xj P (kR P hd))++[kR P hd])++l2.map (xj P (kR P hd))) (ps.length+1+j)=bJ (l2.map (xj P (kR P hd))) j:=by
    have:=ox (X:=fs.map (xj P (kR P hd))++[kR P hd]) (Y:=l2.map (xj P (kR P hd))) (i:=j);rw[av,lf,bf] at this;exact this
   rw[e1,e2,key (by lia) λr hr=>wide r (au.mpr (.inr (.tail _ hr)))]
end
theorem tz {α β:Type} {F:α->β->Prop}:∀{l1:List α} {l2:List β} (_:Paired F l1 l2) (i:Nat),Paired F (l1.eraseIdx i) (l2.eraseIdx i)
 | _,_,.nil,_=>.nil
 | _,_,.cons _ r,0=>r
 | _,_,.cons h r,i+1=>.cons h (tz r i)
theorem MN:c∈Di xs i↔c < i/\xs.getD c 0≠0:=by
 unfold Di;rw[j6,rD];simp
theorem bB.toE {K:FG9} (h:bB K H0 H l rows):∃us,H l=some (.lst us)/\Paired (mD K (λq=>H0 q=none/\q≠l) H) rows us:=by
 obtain ⟨us,g,pr,nn⟩:=h;exact ⟨us,g,pN (λxs v hv ⟨q,e,a,b⟩=>⟨q,e,⟨a,λz=>nn (by rw[<- z,<- e];exact hv)⟩,b⟩) pr⟩
theorem Ag {α:Type} {v:α}:∀{l:List α},l.Nodup->v∉l->∀j,(l.set j v).Nodup
 | [],_,_,_=>k9
 | a :: l,h,hn,0=>by
  rw[dP] at h;rw[List.set_cons_zero,dP];exact ⟨λz=>hn (.tail _ z),h.2⟩
 | a :: l,h,hn,j+1=>by
  rw[dP] at h;rw[List.set_cons_succ,dP];refine ⟨λz=>?_,Ag h.2 (λz=>hn (.tail _ z)) j⟩;rcases cu z with z | z
  ·exact h.1 z
  ·exact hn (by rw[z];exact .head _)
structure iJ (K:FG9) (A:Addr->Prop) (H:Hp) (n:Nat) (C:V->Rat->Prop) (m p l b q0:Addr) (us ws vs:List V):Prop where
 bag:hZ H b
 inn:Inner H b q0
 gm:H m=some (.lst us)
 gp:H p=some (.lst ws)
 gl:H l=some (.lst vs)
 lm:us.length=n
 row:∀x∈us++vs++ws,eT K A H n (C x) x
 nd:(us++vs++ws).Nodup
section
variable {K:FG9} {A:Addr->Prop} {H H':Hp} {n:Nat} {C C':V->Rat->Prop} {m p l b q0 q:Addr} {us ws vs zs:List V} {y:Rat} {v:V}
theorem iJ.same (h:iJ K A H n C m p l b q0 us ws vs) (e:aF H H'):iJ K A H' n C m p l b q0 us ws vs :=
 ⟨h.bag.same e,(e.upto (p:=b)).2 _ h.inn,e _ _ h.gm,e _ _ h.gp,e _ _ h.gl,h.lm,λx hx=>(h.row x hx).same e,h.nd⟩
theorem iJ.upto (h:iJ K A H n C m p l b q0 us ws vs) (M:DK A m p l b q0) (u:cU b H H') (B':hZ H' b):iJ K A H' n C m p l b q0 us ws vs :=
 ⟨B',u.2 _ h.inn,u.other M.mb h.gm,u.other M.pb h.gp,u.other M.lb h.gl,h.lm,λx hx=>(h.row x hx).upto u h.bag M.ab,h.nd⟩
theorem iJ.weak (h:iJ K A H n C m p l b q0 us ws vs) (w:∀x∈us++vs++ws,∀y,C x y->C' x y):iJ K A H n C' m p l b q0 us ws vs :=
 ⟨h.bag,h.inn,h.gm,h.gp,h.gl,h.lm,λx hx=>(h.row x hx).weak (λ_ z=>z) (w x hx),h.nd⟩
theorem iJ.put (h:iJ K A H n C m p l b q0 us ws vs) (M:DK A m p l b q0) (aq:A q) (hq:H q=some (.lst zs)) (hv:cb K H y v) (hc:C (.ref q) y) (j:Nat):iJ K A (upd H q (.lst (zs.set j v))) n C m p l b q0 us ws vs:=by
 have ne:∀{z},¬A z->z≠q:=λh e=>h (by rw[e];exact aq)
 refine ⟨h.bag.upd h.inn (ne M.ab).symm (ne M.aq).symm,h.inn.upd (ne M.ab).symm,by rw[br (ne M.am)];exact h.gm,by rw[br (ne M.ap)];exact h.gp,by rw[br (ne M.al)];exact h.gl,h.lm,λx hx=>?_,h.nd⟩;by_cases e:x=.ref q
 ·subst e;exact (h.row _ hx).put hq hv hc j
 ·obtain ⟨q1,qs,rfl,a1,r1,l1,c1⟩:=h.row x hx;exact ⟨q1,qs,rfl,a1,r1.updL hq (λz=>e (by rw[z])),l1,c1⟩
theorem iJ.set (h:iJ K A H n C m p l b q0 us ws vs) (M:DK A m p l b q0) (hx:eT K A H n (C v) v) (hn:v∉us++vs++ws) (j:Nat):iJ K A (upd H m (.lst (us.set j v))) n C m p l b q0 (us.set j v) ws vs:=by
 have mem:∀x∈us.set j v++vs++ws,x=v\/x∈us++vs++ws:=λx hx=>by
  rcases au.mp hx with hx | hx
  ·rcases au.mp hx with hx | hx
   ·rcases cu hx with hx | hx
    ·exact .inr (by simp [hx])
    ·exact .inl hx
   ·exact .inr (by simp [hx])
  ·exact .inr (by simp [hx])
 refine ⟨h.bag.upd h.inn M.mb M.mq,h.inn.upd M.mb,aH,by rw[br M.mp.symm];exact h.gp,by rw[br M.ml.symm];exact h.gl,by rw[dQ];exact h.lm,λx hx'=>?_,?_⟩
 ·rcases mem x hx' with rfl | hx'
  ·exact hx.other h.gm M.am
  ·exact (h.row x hx').other h.gm M.am
 ·have nd:=h.nd;rw[b8] at nd hn ⊢;obtain ⟨n1,n2,n3⟩:=di.mp nd;refine di.mpr ⟨?_,n2,λa ha c hc=>?_⟩
  ·rcases bP j us.length with z | z
   ·exact Ag n1 (λz'=>hn (au.mpr (.inl z'))) j
   ·rw[List.set_eq_of_length_le z];exact n1
  ·rcases cu ha with ha | rfl
   ·exact n3 a ha c hc
   ·exact λz=>hn (au.mpr (.inr (by rw[z];exact hc)))
end
theorem Fy (h0:0 < M) (h1:M<=2^800) (hW:W<=2^140) (h:Fr M W x):mU x :=
 Ew h0 (ai h1 (ao (by decide) (by decide))) (ai hW (ao (by decide) (by decide))) h
theorem Kw {t V c:Nat} (ht:t<=3) (hV:V<=2^20) (hc:c<=9):c*(9^t*V)<=2^140:=by
 have h1:9^t<=9^3:=ao (by decide) ht;have h2:c*(9^t*V)<=9*(9^3*2^20):=aI hc (aI h1 hV);exact ai h2 (ai (show 9*(9^3*2^20)<=2^40 by decide) (ao (by decide) (by decide)))
theorem nR {α:Type} {l:List α} {v:α} (h:l.Nodup) (hn:v∉l):(l++[v]).Nodup:=di.mpr ⟨h,by simp,λa ha c hc=>by rw[cz.mp hc];exact λz=>hn (by rw[<- z];exact ha)⟩
section
variable {K:FG9} {a:Addr} {xs:List V} {g:TG} {tf:TT} {te:TE} {Q:VK} {σ₀:St} {H:Hp} {α β:Type}
theorem AE (G:Hp->β->V->Prop) (C:β->Prop) (hB:hZ H b) (hl:n<=1000) (hG:∀{H' H'' c x},G H' c x->cU b H' H''->hZ H' b->G H'' c x)
  (hA:∀{H' c x},G H' c x->∃q,x=V.ref q/\H' q≠none)
  (hs:∀(i:Nat) H' NY NN,i < n->cU b H H'->hZ H' b->(∀y c H2,cU b H' H2->hZ H2 b->C c->G H2 c y->(∃q,y=V.ref q/\H' q=none)->NY y H2)->oS σ₀ g tf te (.int i) H' NY NN)
  (hd:∀ys cs H' p,H p=none->cU b H H'->hZ H' b->H' p=some (.lst ys)->cs.length=n->ys.Nodup->(∀c∈cs,C c)->Paired (G H') cs ys->(∃H2,H2 p=none/\Paired (G H2) cs ys)->Q (.ref p) H'):p4 (DN 0 n) σ₀ g tf te Q H:=by
 refine gR (λi ys H'=>cU b H H'/\hZ H' b/\∃cs,cs.length=i/\ys.Nodup/\(∀c∈cs,C c)/\Paired (G H') cs ys) (aN (bc (by lia))) ⟨(aF.refl _).upto,hB,[],rfl,k9,(λ_ z=>nomatch z),.nil⟩ ?_ ?_
 ·rintro i ys H' hi hlen ⟨u,B,cs,lc,nd,hc,pr⟩;rw[jy];refine hs i H' _ _ hi u B λy c H2 u2 B2 cc gy ⟨q,ey,nq⟩=>⟨u.trans u2,B2,cs++[c],by simp [lc],nR nd (λz=>by obtain ⟨c',_,gc⟩:=cP pr z;obtain ⟨q',e',h'⟩:=hA gc;rw[ey] at e';cases e';exact h' nq),Co hc cc,bX (Paired.imp' (λ_ _ z=>hG z u2 B) pr) (.cons gy .nil)⟩
 ·rintro ys H' hy ⟨u,B,cs,lc,nd,hc,pr⟩ p hp;have s:aF H' (upd H' p (.lst ys)):=aF.new hp;exact hd ys cs _ p (u.none B hp) (u.same s) (B.same s) aH lc nd hc (Paired.imp' (λ_ _ z=>hG z s.upto B) pr) ⟨H',hp,pr⟩
end
structure ED (K:FG9) (A:Addr->Prop) (n:Nat) (C:Rat->Prop) (m p l b q0:Addr) (us ws vs:List V) (H0 H:Hp):Prop where
 mix:iJ K A H n (λ_=>C) m p l b q0 us ws vs
 gp:H p=some (.lst ws)
 gl:H l=some (.lst vs)
 kp:gs A b m H0 H
section
variable {K:FG9} {A:Addr->Prop} {n:Nat} {C:Rat->Prop} {m p l b q0 q:Addr} {us ws vs:List V} {H0 H H':Hp} {y:Rat} {v:V}
theorem ED.same (h:ED K A n C m p l b q0 us ws vs H0 H) (e:aF H H'):ED K A n C m p l b q0 us ws vs H0 H':=⟨h.mix.same e,e _ _ h.gp,e _ _ h.gl,h.kp.same e⟩
theorem ED.upto (h:ED K A n C m p l b q0 us ws vs H0 H) (M:DK A m p l b q0) (u:cU b H H') (B:hZ H' b):ED K A n C m p l b q0 us ws vs H0 H':=⟨h.mix.upto M u B,u.other M.pb h.gp,u.other M.lb h.gl,h.kp.upto u⟩
theorem ED.row (h:ED K A n C m p l b q0 us ws vs H0 H) (hx:x∈ws\/x∈vs):eT K A H n C x:=h.mix.row x (by rcases hx with hx | hx <;> simp [hx])
theorem ED.put (h:ED K A n C m p l b q0 us ws vs H0 H) (M:DK A m p l b q0) (hx:V.ref q∈ws\/V.ref q∈vs) (hv:cb K H y v) (hc:C y) (j:Nat):∃zs,H q=some (.lst zs)/\zs.length=n/\ED K A n C m p l b q0 us ws vs H0 (upd H q (.lst (zs.set j v))):=by
 obtain ⟨q',zs,qs,e,a,g,lz,_⟩:=(h.row hx).at;cases e;have ne:∀{z},¬A z->z≠q:=λh e=>h (by rw[e];exact a)
 exact ⟨zs,g,lz,h.mix.put M a g hv hc j,by rw[br (ne M.ap)];exact h.gp,by rw[br (ne M.al)];exact h.gl,h.kp.upd (.inl a)⟩
end
inductive CP (K:FG9) (vs:List V) (H:Hp) (Q:VK) (E9:XK):Prop
 | mk (b:Addr) (n w:Nat) (way first:Int):vs=[.ref b,.int n,.int way,.int first,.int w]->hZ H b->n<=8->1<=w->w<=1000000->(∀r us H',H r=none->H' r=some (.lst us)->us.length=n->us.Nodup->(∀x∈us,eT K (λq=>H q=none/\q≠r) H' n (Dr (max w 6)) x)->hZ H' b->cU b H H'->Q (.ref r) H')->CP K vs H Q E9
def PtF (n i o w c:Nat) (mv pt lk:LR9):Prop:=∃M V1:Nat,0 < M/\GF M V1 mv/\GF M V1 pt/\GF M V1 lk/\((w<=9/\M=2520/\V1=9^3*9)\/(9 < w/\M<=2^(c*((n+i+o)*n))/\V1=9^3*2^c))
inductive CQ (K:FG9) (vs:List V) (H:Hp) (Q:VK) (E9:XK):Prop
 | mk (b:Addr) (n:Nat):vs=[.ref b,.int n]->hZ H b->1<=n->n<=8->(∀r mv pt lk H',fD K H H' r mv pt lk->mv.length=n->pt.length=1->lk.length=1->fY mv pt lk->GF 1 1 mv->GF 1 1 pt->GF 1 1 lk->hZ H' b->cU b H H'->Q (.ref r) H')->CQ K vs H Q E9
theorem oj (M0:0 < M) (hM:M<=2^a) (hn:mv.length<=n0) (hV:(n0+1)*V1<=2^c) (fm:GF M V1 mv) (fp:GF M V1 pt) (h4:a<=400/\c<=40/\n0*(n0*(a+c)+4)<=1740/\n0*(n0*(n0*(a+c)+4)+a+c+4)<=8900):mV mv pt a c:=by
 obtain ⟨h1,h2,h3,h5⟩:=h4;have e1:mv.length*(a+c)<=n0*(a+c):=az _ hn;have e2:mv.length*(mv.length*(a+c)+4)<=n0*(n0*(a+c)+4):=aI hn (by lia);have e3:mv.length*(mv.length*(mv.length*(a+c)+4)+a+c+4)<=n0*(n0*(n0*(a+c)+4)+a+c+4):=aI hn (by lia);exact ⟨M,V1,M0,hM,ai (az _ (by lia)) hV,fm,fp,h1,h2,by lia,by lia⟩
def JT (K:FG9):Sp:=λvs H Q _=>∃b:Addr,vs=[.ref b]/\hZ H b /\
 ∀r mv pt lk H',fD K H H' r mv pt lk->6<=mv.length->fY mv pt lk->GF 1 (9^3) mv->GF 1 (9^3) pt->GF 1 (9^3) lk->hZ H' b->cU b H H'->Q (.ref r) H'
theorem Dp (lm:mv.length=n) (wm:∀xs∈mv,xs.length=n) (wp:∀xs∈pt,xs.length=n) (RR:aR (kry mv pt t) n R ps) (RR':aR (kry mv pt (t+1)) n R' ps'):aR (pt++R.map (qD mv)) n R' ps':=by
 have wk:=fq (mv:=mv) lm wp t;refine ⟨RR'.1,RR'.2.1,RR'.2.2.other ?_ ?_⟩
 ·refine sT (λi hi=>oU hi) λi hi=>mG ?_
  rw[ag] at hi;have:=RR.2.2.span i hi;rw[<- RR.1] at this;exact xJ lm wm wk RR.2.1 hi this
 ·refine sT (λi hi=>oU hi) λi hi=>mG ?_
  rw[ag] at hi;exact xJ lm wm RR.2.1 wk hi (RR.2.2.back i (by rw[<- RR.1];exact hi))
theorem Lv {F G:List gY->Rat} {r:Nat} {σ:Nat->Nat} (hF:∀ws:List gY,F (ws.map λv i=>v (σ i))=G ws):∀(post pre:List gY) (s:Rat),zB F r (pre.map λv i=>v (σ i)) (post.map λv i=>v (σ i)) s=zB G (σ r) pre post s
 | [],_,_=>rfl
 | v :: post,pre,s=>by
  have i1:=hF (pre++post);have i2:=Lv (r:=r) hF post (pre++[v]) (-s);simp only[bK,fJ,List.map_nil,zB] at i1 i2 ⊢;rw[i1,i2]
theorem LM {σ:Nat->Nat}:∀(rs:List Nat) (vs:List gY),oO rs (vs.map λv i=>v (σ i))=oO (rs.map σ) vs
 | [],[]=>rfl
 | [],_ :: _=>rfl
 | r :: rs,vs=>Lv (λws=>LM rs ws) vs [] 1
theorem HY {σ:Nat->Nat}:∀{k:Nat},(vf (λi=>i) k).map σ=vf σ k
 | 0=>rfl
 | k+1=>by show σ k :: _=_;rw[HY];rfl
theorem cw_map {τ:gY->gY} {v:Nat->gY}:∀{k:Nat},(ot v k).map τ=ot (λj=>τ (v j)) k
 | 0=>rfl
 | k+1=>by show τ (v k) :: _=_;rw[cw_map];rfl
theorem Nb:oO (vf σ k) (ot v k)=oO (vf (λi=>i) k) (ot (λj i=>v j (σ i)) k):=by
 rw[<- HY,<- LM,cw_map]
structure Vb (r n:Nat) (Pm Y Z:Nat->Nat->Rat) (d:Rat) (W:Nat):Prop where
 d0:d≠0
 det:d=oO (vf (λi=>i) r) (ot (λj i=>Pm i j) r)
 eq:∀i,i < r->∀c,c < n->Z i c=bG r λs=>Pm i s*Y s c
 pf:∀i,i < r->∀s,s < r->Fr 1 W (Pm i s)
 zf:∀i,i < r->∀c,c < n->Fr 1 W (Z i c)
section
variable {rows fs ls:LR9} {n r M W Wv Wb k P:Nat} {Pm Y Z B E a:Nat->Nat->Rat} {d:Rat} {ps:List Nat} {rs:LR9}
def Jz (rows:LR9) (n S:Nat):Prop:=2*S<=3990/\∃J:Nat->LR9->List Nat->Prop,J 0 rows []/\(∀P rs ps,J P rs ps->(∀i,ps.length<=i->i < rs.length->bJ rs i P=0)->J (P+1) rs ps) /\
 (∀P fs ls ps t,J P (fs++ls) ps->fs.length=ps.length->t < ls.length->P < n->(ls.getD t []).getD P 0≠0->J (P+1) ((fs.map (xj P (kR P (ls.getD t [])) )++[kR P (ls.getD t [])])++(ls.eraseIdx t).map (xj P (kR P (ls.getD t [])))) (ps++[P])) /\
 (∀P rs ps,J P rs ps->xD rows n P rs ps)/\∀P rs ps,J P rs ps->P<=n->∀i,i < rows.length->∃D:Nat,0 < D/\D<=2^S/\∀c,Tp D (2^S) (bJ rs i c)
theorem JA.lws {w a:Nat} (F:JA rows n w a) (hw:∀xs∈rows,xs.length=n):Jz rows n (min rows.length n*(w+4)+a):=by
 obtain ⟨_,_,_,_,_,_,_,_,e⟩:=id F;refine ⟨e,xD rows n,xD.start hw,λ_ _ _ h z=>h.skip z,λ_ _ _ _ _ h hf ht hP hne=>h.lean hf ht hP hne,λ_ _ _ h=>h,λP rs ps h hP i hi=>?_⟩;obtain ⟨D,D0,D1,D2⟩:=h.sz F hP hi;exact ⟨D,D0,D1,λc=>(D2 c).mono (ao (by decide) (by lia))⟩
end
section
variable {rows R R1 R2 mv pt:LR9} {n r M V1 W W' Wv Wb k P:Nat} {Pm Y Z B E a:Nat->Nat->Rat} {d:Rat} {ps ps1 ps2:List Nat} {rs:LR9}
theorem HB (h0:0 < M) (h3:∀xs∈rows,∀x∈xs,Tp M W x):∀i,i < rows.length->∀c,Fr 1 W (dF (rows.map fH) i c):=λi hi c=>by
 have hx:=getD_in (e:=[]) hi;rw[vL hi];unfold bJ;generalize rows.getD i []=xs at hx ⊢;by_cases hc:c < xs.length
 ·have t:=h3 xs hx _ (getD_in (e:=0) hc);obtain ⟨s,e,b⟩:=uN t h0 (mP (xs:=xs)) (mQ (ay.mpr ⟨_,getD_in (e:=0) hc,rfl⟩)) (xC h0 (h3 xs hx));rw[cF,e];exact Fr.int b
 ·rw[aa,aT (by lia)];show Fr 1 W (_*0)
  rw[cV];exact Fr.zero
theorem Vb.of (hw:∀xs∈rows,xs.length=n) (hW:1<=W) (h0:0 < M) (h3:∀xs∈rows,∀x∈xs,Tp M W x) (RR:aR rows n R ps):∃Pm Z d,Vb ps.length n Pm (bJ R) Z d W:=by
 have ent:=HB h0 h3;obtain ⟨ls,ps2,d,I⟩:=uP hw hW (by rw[ag];exact ent) n (ak _);obtain ⟨_,_,⟨pm,B⟩,E⟩:=I;rw[ag] at B E
 have RF:AW rows.length n (bJ rows) ps2.length (λj=>ps2.getD j 0) (λi c=>dF ls i c / d):=AW.other (E.done λi hi c hc=>sF (n:=n) (λzs hz=>by
  obtain ⟨xs,hx,rfl⟩:=ay.mp hz;rw[mF];exact hw xs hx) hc) xn xo
 obtain ⟨e1,e2,e3⟩:=RF.uniq RR.2.2 (λ_ hi=>d5.row hi) (λ_ hi=>d5.row hi);refine ⟨λi s=>dF (rows.map fH) (pm i) (ps2.getD s 0),λi c=>dF (rows.map fH) (pm i) c,d,?_⟩;rw[<- e1];have km:=B.km;refine ⟨B.d0,?_,λi hi c hc=>?_,λi hi s hs=>ent _ (B.rng i (by lia)) _,λi hi c hc=>ent _ (B.rng i (by lia)) _⟩
 ·rw[B.det];exact Nb
 ·have:=B.coef (i:=i) (c:=c) (by lia);rw[if_pos hi,qh] at this;rw[this];exact aJ λs hs=>by rw[<- e3 s hs c];exact cF _ _
theorem p7 {f:Nat->Rat} {a:Nat}:∀{b:Nat},bG (a+b) f=bG a f+bG b λt=>f (a+t)
 | 0=>by show bG a f=bG a f+0;grind
 | b+1=>by
  show bG (a+b) f+f (a+b)=_+(bG b _+f (a+b))
  rw[p7];grind
end
section
variable {rows R R1 R2 mv pt:LR9} {n t t2 a c:Nat} {ps ps1 ps2:List Nat}
theorem sX (RR:aR rows n R ps):aR R n R ps:=⟨RR.1,RR.2.1,RR.2.2.other (λi hi=>by rw[RR.1];exact RR.2.2.span i hi) (λi hi=>RR.2.2.back i (by rw[<- RR.1];exact hi))⟩
theorem J0 (RR:aR rows n R ps) (e:ps.length=n) (hi:i < n) (c:Nat):bJ R i c=if c=i then 1 else 0:=by
 have lo:∀j,j < n->j<=ps.getD j 0:=by
  intro j
  induction j with
  | zero=>intro _;exact bu _
  | succ j ih =>
   intro hj;have:=ih (by lia);have:=RR.2.2.inc j (j+1) (by lia) (by lia)
   lia
 have hi2:∀s j,j+s+1=n->ps.getD j 0<=j:=by
  intro s
  induction s with
  | zero =>
   intro j hj;have:=RR.2.2.low j (by lia)
   lia
  | succ s ih =>
   intro j hj;have:=ih (j+1) (by lia);have:=RR.2.2.inc j (j+1) (by lia) (by lia)
   lia
 have ep:∀j,j < n->ps.getD j 0=j:=λj hj=>JD (hi2 (n - 1 - j) j (by lia)) (lo j hj)
 by_cases hc:c < n
 ·have:=RR.2.2.unit i (by lia) c (by lia);rw[ep c hc] at this;rw[this];by_cases z:i=c
  ·rw[if_pos z,if_pos z.symm]
  ·rw[if_neg z,if_neg (Ne.symm z)]
 ·rw[oo RR.2.1 (by lia),if_neg (by lia)]
theorem Ce (h:∀i,i < rows.length->∀c,Tp M W (bJ rows i c)):∀xs∈rows,∀x∈xs,Tp M W x:=λxs hx x hx'=>by
 obtain ⟨i,hi,rfl⟩:=aQ hx;obtain ⟨c,hc,rfl⟩:=aQ hx';have:=h i hi c;unfold bJ at this;rw[aa (l:=rows),af hi] at this;have e:(some rows[i]).getD []=rows[i]:=rfl;rw[e,aa,af hc] at this;exact this
theorem mV.vb (F:mV mv pt a c) (wm:∀xs∈mv,xs.length=mv.length) (wp:∀xs∈pt,xs.length=mv.length) (ht:t<=ps.length) (RR:aR (kry mv pt t) mv.length R ps):∃Pm Z d w,Vb ps.length mv.length Pm (bJ R) Z d (2^w)/\(ps.length < mv.length/\w=(mv.length - 1)*(a+c)\/ps.length=mv.length/\w=0):=by
 have le:=RR.le;rcases bP ps.length mv.length with z | z
 ·obtain ⟨M,V,M0,Ma,hV,fm,fp,_⟩:=F;have f:=II rfl wm wp hV fm fp t
  obtain ⟨Pm,Z,d,vb⟩:=Vb.of (fq rfl wp t) (bw (n:=(mv.length - 1)*(a+c))) (uH M0 (n:=t)) (λxs hx x hx'=>Tp.of (f xs hx x hx') (by
   refine ai (bD _ (jG Ma t)) ?_;rw[<- uI,<- bC];refine ao (by decide) ?_;rw[<- Jv,cv,k6 c];exact az _ (by lia))) RR
  exact ⟨Pm,Z,d,_,vb,.inl ⟨z,rfl⟩⟩
 ·have e:ps.length=mv.length:=by lia
  obtain ⟨Pm,Z,d,vb⟩:=Vb.of (W:=2^0) (M:=1) RR.2.1 (by decide) (by decide) (Ce λi hi c=>by
   rw[RR.1,e] at hi;rw[J0 RR e hi c]
   split
   ·exact ⟨1,by rw[kE];rfl,by decide⟩
   ·exact ⟨0,by rw[kY];rfl,by decide⟩) (sX RR)
  exact ⟨Pm,Z,d,0,vb,.inr ⟨e,rfl⟩⟩
end
inductive xQ (K:FG9) (vs:List V) (H:Hp) (Q:VK) (E9:XK):Prop
 | mk (p:Addr) (n S:Nat) (H0:Hp) (rows:LR9):vs=[.ref p,.int n]->bB K H0 H p rows->rows.length<=100->n<=100->(∀xs∈rows,xs.length=n)->Jz rows n S->(∀r R ps H',H r=none->aF H H'->bB K H H' r R->aR rows n R ps->ps.length<=rows.length->Q (.ref r) H')->xQ K vs H Q E9
section
variable {K:FG9} {a:Addr} {xs:List V} {g:TG} {tf:TT} {te:TE} {Q:VK} {σ₀:St} {H:Hp} {α β:Type}
theorem Az {F:Hp->α->V->Prop} (G:Hp->β->V->Prop) (f:α->β) (hx:H a=some (.lst xs)) (pf:Paired (F H) as xs) (hl:as.length<=1000)
  (hF:∀{H H' c x},F H c x->aF H H'->F H' c x) (hG:∀{H H' c x},G H c x->aF H H'->G H' c x) (hA:∀{H' c x},G H' c x->∃q,x=V.ref q/\H' q≠none)
  (hs:∀(i:Nat) c x H' NY NN,as[i]?=some c->aF H H'->F H' c x->(∀y H2,aF H' H2->G H2 (f c) y->(∃q,y=V.ref q/\H' q=none)->NY y H2)->oS σ₀ g tf te x H' NY NN)
  (hd:∀ys H' p,H p=none->aF H H'->H' p=some (.lst ys)->ys.Nodup->(∀y∈ys,∃q,y=V.ref q/\H q=none/\q≠p)->Paired (G H') (as.map f) ys->Q (.ref p) H'):p4 (K5 K a) σ₀ g tf te Q H:=by
 have lx:=pf.length;refine dd (K:=K) (xs:=xs) (λi ys H'=>aF H H'/\ys.Nodup/\(∀y∈ys,∃q,y=V.ref q/\H q=none)/\Paired (G H') ((as.take i).map f) ys) (aN (bc (by lia))) ⟨aF.refl _,k9,(λ_ z=>nomatch z),.nil⟩ (λi ys H' _ ⟨s,_⟩=>bO.of (s _ _ hx)) ?_ ?_
 ·rintro i x ys H' hx' hlen ⟨s,nd,hn,pr⟩;obtain ⟨c,ec,hc⟩:=cJ pf hx';refine hs i c x H' _ _ ec s (hF hc s) λy H2 s2 gy ⟨q,ey,nq⟩=>⟨s.trans s2,nR nd (λz=>?_),Co hn ⟨q,ey,s.none nq⟩,?_⟩
  ·obtain ⟨c',_,gc⟩:=cP pr z;obtain ⟨q',e',h'⟩:=hA gc;rw[ey] at e';cases e';exact h' nq
  ·rw[take_snoc ec,bK];exact bX (Paired.imp' (λ_ _ z=>hG z s2) pr) (.cons gy .nil)
 ·rintro ys H' hy ⟨s,nd,hn,pr⟩ p hp;rw[aG (by lia)] at pr;refine hd ys _ p (s.none hp) (s.trans (aF.new hp)) aH nd (λy hy=>?_) (Paired.imp' (λ_ _ z=>hG z (aF.new hp)) pr);obtain ⟨q,e,nq⟩:=hn y hy;refine ⟨q,e,nq,λz=>?_⟩;obtain ⟨c',_,gc⟩:=cP pr hy;obtain ⟨q',e',h'⟩:=hA gc;rw[e] at e';cases e';exact h' (by rw[z];exact hp)
end
structure O1 (K:FG9) (H0 H:Hp) (n:Nat) (fd:Addr) (L:List (Addr×List V)):Prop where
 gf:H fd=some (.lst (L.map λe=>V.ref e.1))
 nf:H0 fd=none
 ls:∀e∈L,H0 e.1=none/\e.1≠fd/\H e.1=some (.lst e.2)
 nd:(L.map λe=>e.1).Nodup
 rows:∀e∈L,∀x∈e.2,eT K (λq=>(H0 q=none/\q≠fd)/\q∉L.map λe=>e.1) H n (Fr 1 1) x
 rd:(L.flatMap λe=>e.2).Nodup
section
variable {K:FG9} {H0 H H1:Hp} {n:Nat} {fd q:Addr} {L:List (Addr×List V)} {us:List V}
theorem O1.snoc (h:O1 K H0 H n fd L) (s0:aF H0 H) (s:aF H H1) (hq:H q=none) (gq:H1 q=some (.lst us)) (nd:us.Nodup) (hr:∀x∈us,eT K (λz=>H z=none/\z≠q) H1 n (Fr 1 1) x):O1 K H0 (upd H1 fd (.lst ((L.map λe=>V.ref e.1)++[.ref q]))) n fd (L++[(q,us)]):=by
 have qf:q≠fd:=λz=>by rw[z,h.gf] at hq;cases hq
 have old:∀{z},z∈(L.map λe=>e.1)->H z≠none:=λhz=>by
  obtain ⟨e,he,rfl⟩:=ay.mp hz;rw[(h.ls e he).2.2];exact λz=>nomatch z
 have g1:=s _ _ h.gf;refine ⟨by rw[aH,bK];rfl,h.nf,λe he=>?_,?_,λe he x hx=>?_,?_⟩
 ·rcases au.mp he with he | he
  ·obtain ⟨a,b,c⟩:=h.ls e he;exact ⟨a,b,by rw[br b];exact s _ _ c⟩
  ·rw[cz.mp he];exact ⟨s0.none hq,qf,by rw[br qf];exact gq⟩
 ·rw[bK];exact nR h.nd λz=>old z hq
 ·have key:eT K (λz=>(H0 z=none/\z≠fd)/\z∉(L++[(q,us)]).map λe=>e.1) H1 n (Fr 1 1) x:=by
   rcases au.mp he with he | he
   ·obtain ⟨z,qs,e1,⟨e2,e3⟩,e4,e5⟩:=h.rows e he x hx;refine ⟨z,qs,e1,⟨e2,λhz=>?_⟩,e4.same s,e5⟩;rw[bK] at hz;rcases au.mp hz with hz | hz
    ·exact e3 hz
    ·have hz:z=q:=cz.mp hz;obtain ⟨_,gg,_⟩:=e4;rw[hz,hq] at gg;cases gg
   ·rw[cz.mp he] at hx;refine (hr x hx).weak (λz hz=>⟨⟨s0.none hz.1,λy=>by rw[y] at hz;rw[h.gf] at hz;exact absurd hz.1 (λw=>nomatch w)⟩,λy=>?_⟩) (λ_ w=>w);rw[bK] at y;rcases au.mp y with y | y
    ·exact old y hz.1
    ·exact hz.2 (cz.mp y)
  exact key.other g1 (λz=>z.1.2 rfl)
 ·rw[List.flatMap_append];refine di.mpr ⟨h.rd,by simpa using nd,λx hx y hy z=>?_⟩;obtain ⟨e,he,hx⟩:=List.mem_flatMap.mp hx;obtain ⟨w,qs,e1,_,⟨_,gg,_⟩,_⟩:=h.rows e he x hx;obtain ⟨w',_,e1',⟨hw,_⟩,_⟩:=hr y (by simpa using hy);rw[<- z,e1] at e1';cases e1';rw[hw] at gg;cases gg
end
def Gd (mv pt:LR9) (i:Nat) (R:LR9) (ps:List Nat):Prop:=aR (kry mv pt i) mv.length R ps/\∃t,t<=ps.length/\t<=i/\aR (kry mv pt t) mv.length R ps/\(t=i\/∀s,aR (kry mv pt (t+s)) mv.length R ps)
section
variable {mv pt R R':LR9} {i:Nat} {ps ps':List Nat}
theorem Gd.start:Gd mv pt 0 [] []:=⟨D6,0,ak _,ak _,D6,.inl rfl⟩
theorem HW (wm:∀xs∈mv,xs.length=mv.length) (wp:∀xs∈pt,xs.length=mv.length) (h:aR (kry mv pt i) mv.length R ps) (h':aR (kry mv pt (i+1)) mv.length R' ps') (e:ps'.length=ps.length):∀s,aR (kry mv pt (i+s)) mv.length R ps:=Ak rfl wm wp h (Dp rfl wm wp h h') e
theorem Gd.step (wm:∀xs∈mv,xs.length=mv.length) (wp:∀xs∈pt,xs.length=mv.length) (h:Gd mv pt i R ps) (h':aR (kry mv pt (i+1)) mv.length R' ps'):Gd mv pt (i+1) R' ps'/\(mv.length<=i->R'=R):=by
 obtain ⟨h0,t,t1,t2,ht,hs⟩:=h
 have st:(∀s,aR (kry mv pt (t+s)) mv.length R ps)->Gd mv pt (i+1) R' ps'/\(mv.length<=i->R'=R):=λhs=>by
  have:=hs (i+1 - t);rw[show t+(i+1 - t)=i+1 by lia] at this;obtain ⟨rfl,rfl⟩:=this.same h';exact ⟨⟨h',t,t1,by lia,ht,.inr hs⟩,λ_=>rfl⟩
 rcases hs with rfl | hs
 ·have gr:=Dn rfl wm wp h0 h';by_cases e:ps'.length=ps.length
  ·exact st (HW wm wp h0 h' e)
  ·refine ⟨⟨h',t+1,by lia,ak _,h',.inl rfl⟩,λhn=>?_⟩;have:=h'.le
   lia
 ·exact st hs
theorem Gd.late (h:Gd mv pt i R ps) (hi:mv.length < i) (hj:mv.length<=j):aR (kry mv pt j) mv.length R ps:=by
 obtain ⟨h0,t,t1,t2,ht,hs⟩:=h;have le:=h0.le;rcases hs with rfl | hs
 ·lia
 ·have:=hs (j - t);rwa [show t+(j - t)=j by lia] at this
end
section
variable {rows R X K0:LR9} {due L:List Rat} {n m M W D E W0 W1:Nat} {ps:List Nat}
theorem Jj (hl:vs.length<=N) (h:∀v∈vs,∀r∈rs,Fr 1 Wx (v r)):∃z:Int,oO rs vs=(z:Rat)/\z.natAbs<=(N*Wx)^rs.length:=by
 have f:=yQ hl h;obtain ⟨z,ez⟩:=tQ f;rw[ez] at f;exact ⟨z,ez,sE f⟩
end
def rX (mv:LR9):Nat->List Rat->List Rat
 | 0,x=>x
 | t+1,x=>qD mv (rX mv t x)
section
variable {mv pt lk pus:LR9} {st pu go:List Rat} {n t T c:Nat}
theorem Kv (h:st.length=mv.length):∀t,(rX mv t st).length=mv.length
 | 0=>h
 | _+1=>yv
theorem BV:∀t,(kry mv pt t).length=t*pt.length
 | 0=>by rw[Nat.zero_mul];rfl
 | t+1=>by
  show (pt++(kry mv pt t).map (qD mv)).length=_
  rw[av,ag,BV t,jw,k6]
end
section
variable {K:FG9} {H0 H H':Hp} {l p q:Addr} {R:LR9} {v:V} {mv pt:LR9} {u T:Nat}
def Ng (mv pt:LR9) (u:Nat):List (LR9):=(List.range u).map λs=>pt.map (rX mv s)
theorem K2:Ng mv pt (u+1)=Ng mv pt u++[pt.map (rX mv u)]:=by unfold Ng;rw[oP,bK];rfl
theorem Cq:∀u,(Ng mv pt u).flatten=kry mv pt u
 | 0=>rfl
 | u+1=>by
  have e:Ng mv pt (u+1)=pt :: (Ng mv pt u).map (List.map (qD mv)):=by
   unfold Ng;rw[List.range_succ_eq_map,fJ,lh];congr 1
   ·exact uJ pt
   ·rw[lh];refine Cz λs _=>?_
    show pt.map (rX mv (s+1))=(pt.map (rX mv s)).map (qD mv)
    rw[lh];rfl
  rw[e,iK,<- List.map_flatten,Cq u];rfl
end
section
variable {mv pt lk rows R N Hd:LR9} {st pr go:List Rat} {n r t T a c W B:Nat} {ps psd:List Nat} {Pm Y Z:Nat->Nat->Rat} {d:Rat}
theorem Vb.tp (V:Vb r n Pm Y Z d W) (r15:r<=15) (w1:1<=W):∃q:Nat,0 < q/\q<=(16*W)^r/\∀s,s < r->∀c,c < n->Tp q ((16*W)^r) (Y s c):=by
 have rlt:∀i∈vf (λi=>i) r,i < r:=λi hi=>by
  obtain ⟨t,ht,e⟩:=lY hi;have e:i=t:=e
  lia
 obtain ⟨q,eq,bq⟩:=Jj (N:=16) (Wx:=W) (rs:=vf (λi=>i) r) (vs:=ot (λj i=>Pm i j) r) (by rw[cw_len];lia) λw hw i hi=>by
  obtain ⟨s,hs,rfl⟩:=cw_in hw;exact V.pf i (rlt i hi) s hs
 rw[pJ] at bq;rw[<- V.det] at eq;have q0:q≠0:=λz=>V.d0 (by rw[eq,z];rfl)
 refine ⟨q.natAbs,by lia,bq,λs hs c hc=>?_⟩
 have cr:=Ao (rs:=vf (λi=>i) r) (v:=λj i=>Pm i j) (c:=λj=>Y j c) (W:=λi=>Z i c) hs (λi hi=>by
  rw[V.eq i (rlt i hi) c hc];exact aJ λj _=>cF _ _)
 obtain ⟨z,ez,bz⟩:=Jj (N:=16) (Wx:=W) (rs:=vf (λi=>i) r) (vs:=GW (λj i=>Pm i j) s r++(λi=>Z i c) :: ot (λj i=>Pm i j) s) (by
  have:=congrArg List.length (cw_split (v:=λj i=>Pm i j) hs);rw[av,bx,cw_len] at this;rw[av,bx]
  lia) λw hw i hi=>by
   rcases au.mp hw with hw | hw
   ·obtain ⟨s',hs',rfl⟩:=Dz hw;exact V.pf i (rlt i hi) s' hs'
   ·rcases aE.mp hw with rfl | hw
    ·exact V.zf i (rlt i hi) c hc
    ·obtain ⟨s',hs',rfl⟩:=cw_in hw;exact V.pf i (rlt i hi) s' (by lia)
 rw[pJ] at bz;rw[ez,<- V.det,eq] at cr;have key:Y s c*(q:Rat)=(z:Rat):=cr.symm;rcases DM q with h | h
 ·have hq:((q.natAbs:Nat):Rat)=(q:Rat):=by rw[<- aW,<- h]
  exact ⟨z,by rw[hq,key],bz⟩
 ·have hq:((q.natAbs:Nat):Rat)=-(q:Rat):=by rw[<- aW,<- cS];congr 1;lia
  exact ⟨-z,by rw[hq,cS,<- key];grind,by rw[iQ];exact bz⟩
theorem IZ (F:mV mv pt a c) (D8:mv.length<=8) (wm:∀xs∈mv,xs.length=mv.length) (wp:∀xs∈pt,xs.length=mv.length):∀T,∃R ps,Gd mv pt T R ps:=by
 intro T
 induction T with
 | zero=>exact ⟨_,_,Gd.start⟩
 | succ T ih =>
  obtain ⟨R,ps,G⟩:=ih;obtain ⟨RR,t,t1,t2,RRt,hs⟩:=id G;have le:=RR.le
  obtain ⟨R',ps',d,ls,S⟩:=ve (n:=mv.length) (rows:=pt++R.map (qD mv)) (λxs hx=>by
   rcases au.mp hx with hx | hx
   ·exact wp xs hx
   ·obtain ⟨y,_,rfl⟩:=ay.mp hx;exact yv) (F.step D8 wm wp (t:=t) (by lia) RRt)
  have RR':=tL rfl wm wp RR S.rr;exact ⟨R',ps',(G.step wm wp RR').1⟩
theorem OC (F:mV mv pt a c) (D8:mv.length<=8) (wm:∀xs∈mv,xs.length=mv.length) (wp:∀xs∈pt,xs.length=mv.length) (RR:aR (kry mv pt T) mv.length R ps):Gd mv pt T R ps:=by
 obtain ⟨R',ps',G⟩:=IZ F D8 wm wp T;obtain ⟨rfl,rfl⟩:=RR.same G.1;exact G
theorem mV.rtp (F:mV mv pt a c) (D8:mv.length<=8) (wm:∀xs∈mv,xs.length=mv.length) (wp:∀xs∈pt,xs.length=mv.length) (RR:aR (kry mv pt T) mv.length R ps):∃q,0 < q/\q<=2^(ps.length*((mv.length - 1)*(a+c)+4))/\∀xs∈R,∀x∈xs,Tp q (2^(ps.length*((mv.length - 1)*(a+c)+4))) x:=by
 obtain ⟨_,t,t1,_,RRt,_⟩:=OC F D8 wm wp RR;obtain ⟨Pm,Z,d,w,vb,hw⟩:=F.vb wm wp t1 RRt;have le:=RR.le;obtain ⟨q,q0,q1,q2⟩:=vb.tp (by lia) bw
 have up:(16*2^w)^ps.length<=2^(ps.length*((mv.length - 1)*(a+c)+4)):=by
  have e:(16*2^w)^ps.length=2^(ps.length*(w+4)):=by rw[show (16:Nat)=2^4 from rfl,<- bC,<- uI,cv ps.length,k6 w]
  rw[e];refine ao (by decide) (bD _ ?_);rcases hw with ⟨_,rfl⟩ | ⟨_,rfl⟩ <;> lia
 refine ⟨q,q0,ai q1 up,Ce λi hi e=>?_⟩;by_cases he:e < mv.length
 ·exact (q2 i (by rw[<- RR.1];exact hi) e he).mono up
 ·rw[oo RR.2.1 (by lia)];exact Tp.zero
theorem Ge (hw:∀xs∈N,xs.length=n) (hW:1<=W) (h0:0 < M) (h3:∀xs∈N,∀x∈xs,Tp M W x) (f:Nat->Nat) (hf:∀i,i < N.length->bJ N i (f i)≠0/\∀j,j < N.length->j≠i->bJ N j (f i)=0) (hn:∀i,i < N.length->f i < n) (RR:aR N n Hd psd):psd.length=N.length:=by
 have ent:=HB h0 h3;obtain ⟨ls,ps2,d,I⟩:=uP hw hW (by rw[ag];exact ent) n (ak _);obtain ⟨_,_,⟨pm,B⟩,E⟩:=I;rw[ag] at B E
 have RF:AW N.length n (bJ N) ps2.length (λj=>ps2.getD j 0) (λi c=>dF ls i c / d):=AW.other (E.done λi hi c hc=>sF (n:=n) (λzs hz=>by
  obtain ⟨xs,hx,rfl⟩:=ay.mp hz;rw[mF];exact hw xs hx) hc) xn xo
 obtain ⟨e1,_,_⟩:=RF.uniq RR.2.2 (λ_ hi=>d5.row hi) (λ_ hi=>d5.row hi);rw[<- e1];have km:=B.km;rcases bP ps2.length N.length with z | z
 ·exfalso
  have hk:=B.rng ps2.length z;obtain ⟨f1,f2⟩:=hf _ hk
  have low:∀i,i < ps2.length->dF (N.map fH) (pm i) (f (pm ps2.length))=0:=λi hi=>by
   rw[vL (B.rng i (by lia)),f2 _ (B.rng i (by lia)) (λe=>by have:=B.inj i ps2.length (by lia) z e;lia),cV]
  have lz:∀j,j < ps2.length->dF ls j (f (pm ps2.length))=0:=λj hj=>by
   rw[B.old hj]
   exact Cg (λr hr=>by
    obtain ⟨t,ht,rfl⟩:=lY hr;exact low t ht) _ _
  have:=B.eqs ps2.length z (f (pm ps2.length));rw[if_neg (dG _),E.zero ps2.length (ak _) z _ (hn _ hk),cB λj hj=>by rw[lz j hj,cV],vL hk] at this;have bne:=uk (rows:=N) (i:=pm ps2.length);have d0:=B.d0;rcases JC.mp (this.trans (by grind)) with q | q
  ·exact d0 q
  ·rcases JC.mp q with q | q
   ·exact bne q
   ·exact f1 q
 ·lia
theorem Jc (h1:∀i j,i < j->j < ps.length->ps.getD i 0 < ps.getD j 0) (h2:∀j,j < ps.length->ps.getD j 0 < n):(c4 ps n).length+ps.length=n:=by
 have key:∀i,∃k,k<=ps.length/\(c4 ps i).length+k=i/\(∀j,j < k->ps.getD j 0 < i)/\∀j,k<=j->j < ps.length->i<=ps.getD j 0:=by
  intro i
  induction i with
  | zero=>exact ⟨0,bu _,rfl,λj hj=>absurd hj (fE _),λj _ _=>bu _⟩
  | succ i ih =>
   obtain ⟨k,k1,k2,k3,k4⟩:=ih;rw[kB];by_cases hk:k < ps.length/\ps.getD k 0=i
   ·have hm:i∈ps:=by rw[<- hk.2];exact getD_in hk.1
    rw[if_neg (λz=>z hm)];refine ⟨k+1,hk.1,by lia,λj hj=>?_,λj hj hl=>?_⟩
    ·rcases bP j k with z | z
     ·have:=k3 j z;lia
     ·rw[show j=k by lia,hk.2];lia
    ·have:=h1 k j (by lia) hl
     lia
   ·have hm:i∉ps:=λz=>by
     obtain ⟨j,hj,ej⟩:=aQ z;have ej':ps.getD j 0=i:=by rw[aa,af hj];exact ej
     rcases bP j k with y | y
     ·have:=k3 j y;lia
     ·rcases bP k j with x | x
      ·have:=h1 k j x hj;have:=k4 k (ak _) (by lia)
       lia
      ·exact hk ⟨by lia,by rw[show k=j by lia];exact ej'⟩
    rw[if_pos hm];refine ⟨k,k1,by rw[av,bf];lia,λj hj=>by have:=k3 j hj;lia,λj hj hl=>?_⟩;have:=k4 j hj hl;rcases bP i (ps.getD j 0) with y | y
    ·exact y
    ·exact absurd (by rw[show i=ps.getD j 0 by lia];exact getD_in hl) hm
 obtain ⟨k,k1,k2,k3,k4⟩:=key n;rcases bP k ps.length with z | z
 ·have:=k4 k (ak _) z;have:=h2 k z
  lia
 ·lia
theorem nP:∀xs∈a7 R ps n,xs.length=n:=λxs hx=>by
 obtain ⟨_,_,_,rfl⟩:=mI hx;exact jO
theorem mJ (RR:aR rows n R ps):(a7 R ps n).length+ps.length=n:=by
 unfold a7;rw[ag];exact Jc RR.2.2.inc RR.2.2.low
theorem yD (RR:aR rows n R ps) (hW:1<=W) (h0:0 < M) (h3:∀xs∈a7 R ps n,∀x∈xs,Tp M W x) (RN:aR (a7 R ps n) n Hd psd):psd.length+ps.length=n:=by
 have fn:∀i,i < (a7 R ps n).length->∀c,c < n->c∉ps->bJ (a7 R ps n) i c=if c=(c4 ps n).getD i 0 then 1 else 0:=λi hi c hc hp=>by
  unfold a7 at hi ⊢;rw[ag] at hi;unfold bJ;rw[aa (l:=List.map _ _),aD,af hi];show (tI R ps n (c4 ps n)[i]).getD c 0=_
  rw[nQ hc hp,aa,af hi];rfl
 have fm:∀i,i < (a7 R ps n).length->(c4 ps n).getD i 0 < n/\(c4 ps n).getD i 0∉ps:=λi hi=>by
  unfold a7 at hi;rw[ag] at hi;exact js.mp (getD_in hi)
 have nd:(c4 ps n).Nodup:=by
  unfold c4;exact DP CA GZ
 rw[Ge nP hW h0 h3 (λi=>(c4 ps n).getD i 0) (λi hi=>⟨?_,λj hj ne=>?_⟩) (λi hi=>(fm i hi).1) RN,mJ RR]
 ·rw[fn i hi _ (fm i hi).1 (fm i hi).2,if_pos rfl];decide
 ·rw[fn j hj _ (fm i hi).1 (fm i hi).2,if_neg λz=>ne ?_];unfold a7 at hi hj;rw[ag] at hi hj;rw[aa,aa,af hi,af hj] at z;have z:(c4 ps n)[i]=(c4 ps n)[j]:=z;have pw:=sJ.mp nd;rcases dI i j with y | y | y
  ·exact absurd z (pw i j hi hj y)
  ·exact y.symm
  ·exact absurd z.symm (pw j i hj hi y)
theorem DU (RR:aR rows n R ps) (RN:aR (a7 R ps n) n Hd psd):∀h∈Hd,∀r∈R,eL h r=0:=λh hh r hr=>by
 obtain ⟨i,hi,rfl⟩:=aQ hh;have wr:=RR.2.1 r hr;have wh:=RN.2.1 _ (aO hi);obtain ⟨v,hv⟩:=RN.2.2.back i (by rw[<- RN.1];exact hi);rw[fv (by lia),wh]
 have fnh:∀c,Hd[i].getD c 0=bJ Hd i c:=λc=>by
  unfold bJ;rw[aa (l:=Hd),af hi];rfl
 have e1:(bG n λc=>Hd[i].getD c 0*r.getD c 0)=bG (a7 R ps n).length λt=>v t*bG n λc=>bJ (a7 R ps n) t c*r.getD c 0:=by
  have q:∀c,c < n->Hd[i].getD c 0*r.getD c 0=bG (a7 R ps n).length λt=>v t*(bJ (a7 R ps n) t c*r.getD c 0):=λc _=>by
   rw[fnh c,hv c,cF,<- cy];exact aJ λt _=>by grind
  rw[aJ q,eG];exact aJ λt _=>cy
 rw[e1];refine cB λt ht=>?_
 have mt:=aO ht;obtain ⟨at_,ha,hp,en⟩:=mI mt;obtain ⟨j,hj,rfl⟩:=aQ hr;have dz:=BP (sX RR) ha hp (af hj) wr;rw[<- en] at dz;have wn:(a7 R ps n)[t].length=n:=nP _ mt;rw[fv (by lia),wr] at dz
 have q:(bG n λc=>bJ (a7 R ps n) t c*R[j].getD c 0)=0:=by
  refine Eq.trans (aJ λc _=>?_) dz
  have:bJ (a7 R ps n) t c=(a7 R ps n)[t].getD c 0:=by
   unfold bJ;rw[aa (l:=a7 R ps n),af ht];rfl
  rw[this];exact cF _ _
 rw[q,cV]
end
structure Bd (mv pt:LR9) (M1 M2 V a1 a2 c:Nat):Prop where
 m1:0 < M1
 m2:0 < M2
 b1:M1<=2^a1
 b2:M2<=2^a2
 gm:GF M1 V mv
 gp:GF M2 V pt
 vc:(mv.length+4)*V<=2^c
section
variable {mv pt lk pus:LR9} {st pu go:List Rat} {M1 M2 V a1 a2 c N Np p t T ν:Nat}
theorem Bd.v1 (B:Bd mv pt M1 M2 V a1 a2 c):V<=2^c:=ai (dJ _ (by lia)) B.vc
theorem Cb (h0:0 < M) (h1:M<=2^a) (h2:W<=2^b) (hab:a+b<=3990) (h:Fr M W x):mU x:=by
 refine rH (Tp.of h (ak _)) h0 (ai h1 (ao (by decide) (by lia))) ?_;refine ai (aI h2 h1) ?_;rw[<- bC];exact ao (by decide) (by lia)
end
section
variable {mv pt lk pus:LR9} {st pu go:List Rat} {M1 M2 V a1 a2 c N Np p t T ν k:Nat}
theorem yk (h:M<=2^a) (hN:N<=2^ν):M^t*N<=2^(a*t+ν):=by
 rw[bC,uI];exact aI (jG h t) hN
def Py (mv:LR9) (st:List Rat) (T:Nat):Prop:=∃M1 V a1 c N p ν,0 < M1/\M1<=2^a1/\GF M1 V mv/\(mv.length+4)*V<=2^c/\0 < N/\N<=2^ν/\(∀x∈st,Fr N (2^p) x)/\a1*(T+1)+ν+c*(T+1)+p<=3900
theorem MG (gm:GF M1 V mv) (wm:∀xs∈mv,xs.length=mv.length) (vc:(mv.length+4)*V<=2^c) (ls:st.length=mv.length) (hs:∀x∈st,Fr N (2^p) x):∀t,∀x∈rX mv t st,Fr (M1^t*N) (2^(c*t+p)) x:=by
 intro t
 induction t with
 | zero =>
  intro x hx;rw[Nat.pow_zero,AX,Nat.mul_zero,Nat.zero_add];exact hs x hx
 | succ t ih =>
  intro x hx;obtain ⟨row,hr,rfl⟩:=ay.mp (show x∈mv.map λxs=>eL xs (rX mv t st) from hx);have f:=Fr.dot (gm row hr) ih;rw[<- cx,cv M1,<- gH] at f;refine f.mono ?_;rw[wm row hr,<- cx,show c*(t+1)+p=c+(c*t+p) by rw[gD];lia,bC 2 c];exact az _ (ai (az V (show mv.length<=mv.length+4 by lia)) vc)
theorem Py.fit (h:Py mv st T) (wm:∀xs∈mv,xs.length=mv.length) (ls:st.length=mv.length) (ht:t<=T):(∀xs∈mv,sI xs (rX mv t st))/\∀x∈rX mv t st,mU x:=by
 obtain ⟨M1,V,a1,c,N,p,ν,m0,m1,gm,vc,N0,hN,hs,sz⟩:=h;have f:=MG gm wm vc ls hs t;have V1:V<=2^c:=ai (dJ _ (by lia)) vc;have e1:a1*t<=a1*T:=bD _ ht;have e2:c*t<=c*T:=bD _ ht;rw[gD,gD,Nat.mul_one,Nat.mul_one] at sz;exact ⟨λxs hx=>⟨a1,c,a1*t+ν,c*t+p,⟨M1,V,m0,m1,V1,gm xs hx⟩,⟨M1^t*N,2^(c*t+p),cw (uH m0) N0,yk m1 hN,ak _,f⟩,by lia⟩,λx hx=>Cb (cw (uH m0) N0) (yk m1 hN) (ak _) (by lia) (f x hx)⟩
def Nt (mv pt:LR9) (T:Nat):Prop:=∃M1 M2 V a1 a2 c,Bd mv pt M1 M2 V a1 a2 c/\a1*(T+1)+a2+c*(T+2)<=3900
theorem Nt.row (h:Nt mv pt T) (wm:∀xs∈mv,xs.length=mv.length) (wp:∀xs∈pt,xs.length=mv.length):∀xs∈pt,Py mv xs T:=λxs hx=>by
 obtain ⟨M1,M2,V,a1,a2,c,B,sz⟩:=h;refine ⟨M1,V,a1,c,M2,c,a2,B.m1,B.b1,B.gm,B.vc,B.m2,B.b2,λx hx'=>(B.gp xs hx x hx').mono B.v1,?_⟩;rw[gD c T 2] at sz;rw[gD c T 1]
 lia
end
section
variable {X:Cx}
end
def StP (mv pt:LR9) (T:Nat):Prop:=T<=12/\(T<=3\/((∀xs∈mv++pt,∀x∈xs,x.den<=9/\x.num.natAbs < 1000)/\(5 < mv.length->T<=mv.length)/\(3<=mv.length->mv.length<=5->T<=mv.length+1)))
theorem Iy (ws vs:List V) (M1 M2 M3:Nat):∃μ:V->Nat,(∀x∈ws,μ x=M2)/\(∀x∈vs,x∉ws->μ x=M3)/\(∀x,x∉ws->x∉vs->μ x=M1)/\∀x,μ x=M1\/μ x=M2\/μ x=M3:=by
 classical
 refine ⟨λx=>if x∈ws then M2 else if x∈vs then M3 else M1,λx h=>if_pos h,λx h h'=>?_,λx h h'=>?_,λx=>?_⟩
 ·show (if x∈ws then M2 else if x∈vs then M3 else M1)=M3
  rw[if_neg h',if_pos h]
 ·show (if x∈ws then M2 else if x∈vs then M3 else M1)=M1
  rw[if_neg h,if_neg h']
 ·show (if x∈ws then M2 else if x∈vs then M3 else M1)=M1\/(if x∈ws then M2 else if x∈vs then M3 else M1)=M2\/(if x∈ws then M2 else if x∈vs then M3 else M1)=M3
  by_cases h:x∈ws
  ·rw[if_pos h];exact .inr (.inl rfl)
  ·rw[if_neg h];by_cases h':x∈vs
   ·rw[if_pos h'];exact .inr (.inr rfl)
   ·rw[if_neg h'];exact .inl rfl
theorem iJ.apart {K:FG9} (h:iJ K A H n C m p l b q0 us ws vs):(∀x∈us,x∉ws/\x∉vs)/\∀x∈vs,x∉ws:=by
 obtain ⟨n1,n2,n3⟩:=di.mp h.nd;obtain ⟨n4,n5,n6⟩:=di.mp n1;exact ⟨λx hx=>⟨λz=>n3 x (au.mpr (.inl hx)) x z rfl,λz=>n6 x hx x z rfl⟩,λx hx z=>n3 x (au.mpr (.inr hx)) x z rfl⟩
theorem iJ.fr3 {K:FG9} (h:iJ K A H n (λ_=>Dr (2^c)) m p l b q0 us ws vs):∃M1 M2 M3,0 < M1/\0 < M2/\0 < M3/\M1<=2^(c*(n*n))/\M2<=2^(c*(ws.length*n))/\M3<=2^(c*(vs.length*n))/\(∀x∈us,eT K A H n (Fr M1 (2^c)) x)/\(∀x∈ws,eT K A H n (Fr M2 (2^c)) x)/\∀x∈vs,eT K A H n (Fr M3 (2^c)) x:=by
 have one:∀l:List V,(∀x∈l,x∈us++vs++ws)->∃M,0 < M/\M<=2^(c*(l.length*n))/\∀x∈l,eT K A H n (Fr M (2^c)) x:=λl hl=>by
  obtain ⟨ra,pa,la,ha⟩:=yg λx hx=>h.row x (hl x hx)
  obtain ⟨M,m0,m1,m2⟩:=J5 (c:=c) (n:=n) (rows:=ra) ha;exact ⟨M,m0,by rw[la] at m1;exact m1,D7 pa λqs hq=>⟨(ha qs hq).1,m2 qs hq⟩⟩
 obtain ⟨M1,a1,a2,a3⟩:=one us λx hx=>by simp [hx]
 obtain ⟨M2,b1,b2,b3⟩:=one ws λx hx=>by simp [hx]
 obtain ⟨M3,c1,c2,c3⟩:=one vs λx hx=>by simp [hx]
 rw[h.lm] at a2;exact ⟨M1,M2,M3,a1,b1,c1,a2,b2,c2,a3,b3,c3⟩
inductive z8 (K:FG9) (xs:List V) (H:Hp) (Q:VK) (E9:XK):Prop
 | mk (b m p l q0:Addr) (n V1:Nat) (μ:V->Nat) (A:Addr->Prop) (us ws vs:List V):xs=[.ref b,.ref m,.ref p,.ref l]->DK A m p l b q0->iJ K A H n (λx=>Fr (μ x) V1) m p l b q0 us ws vs->n<=8->ws.length<=4->vs.length<=4->(∀x,0 < μ x)->(∀x,μ x<=2^800)->(∃M,∀x,x∉ws->x∉vs->μ x=M)->V1<=2^20->(∀q,H q=none->A q)->(∀r us' H',H' r=some (.tup [.ref m,.ref p,.ref l])->iJ K A H' n (λx=>Fr (μ x) (9^3*V1)) m p l b q0 us' ws vs->gs A b m H H'->Q (.ref r) H')->z8 K xs H Q E9
def Pu (n i o w c:Nat) (mv pt lk:LR9):Prop:=∃M1 M2 M3 V1:Nat,0 < M1/\0 < M2/\0 < M3/\GF M1 V1 mv/\GF M2 V1 pt/\GF M3 V1 lk/\((w<=9/\M1=2520/\M2=2520/\M3=2520/\V1=9^3*9)\/(9 < w/\M1<=2^(c*(n*n))/\M2<=2^(c*(i*n))/\M3<=2^(c*(o*n))/\V1=9^3*2^c))
inductive zZ (K:FG9) (vs:List V) (H:Hp) (Q:VK) (E9:XK):Prop
 | mk (b:Addr) (n i o w c:Nat):vs=[.ref b,.int n,.int i,.int o,.int w]->hZ H b->n<=8->i<=4->o<=4->1<=w->w<=1000000->max w 6<=2^c->c<=20->c*((n+i+o)*n)<=800->(∀r mv pt lk H',fD K H H' r mv pt lk->mv.length=n->pt.length=i->lk.length=o->fY mv pt lk->Pu n i o w c mv pt lk->hZ H' b->cU b H H'->Q (.ref r) H')->zZ K vs H Q E9
def Rg (mv pt:LR9) (w:Nat):Prop:=(w<=9/\Bd mv pt 1 1 (9^3) 0 0 14)\/(w<=9/\mv.length<=5/\Bd mv pt 2520 2520 (9^3*9) 12 12 16)\/(w=1000/\mv.length<=2/\∃M1 M2,Bd mv pt M1 M2 (9^3*2^20) 80 160 33)
theorem Er {M V:Nat} (h:GF M V l) (k:Nat):GF (k*M) V l:=λxs hx x hx'=>(h xs hx x hx').scaleL k
theorem Pu.n {n i o w c:Nat} (h:Pu n i o w c mv pt lk):PtF n i o w c mv pt lk:=by
 obtain ⟨M1,M2,M3,V1,a1,a2,a3,f1,f2,f3,hc⟩:=h;rcases hc with ⟨w9,rfl,rfl,rfl,e⟩ | ⟨w9,e1,e2,e3,e⟩
 ·exact ⟨2520,V1,by decide,f1,f2,f3,.inl ⟨w9,rfl,e⟩⟩
 ·refine ⟨M1*M2*M3,V1,cw (cw a1 a2) a3,?_,?_,?_,.inr ⟨w9,?_,e⟩⟩
  ·have:=Er f1 (M2*M3);rwa [show M2*M3*M1=M1*M2*M3 by rw[cv (M2*M3),cx]] at this
  ·have:=Er f2 (M1*M3);rwa [show M1*M3*M2=M1*M2*M3 by rw[cx,cv M3,cx]] at this
  ·exact Er f3 (M1*M2)
  ·refine ai (aI (aI e1 e2) e3) ?_;rw[<- bC,<- bC,show c*((n+i+o)*n)=c*(n*n)+c*(i*n)+c*(o*n) by rw[Jv,Jv,gD,gD]];exact ak _
section
variable {mv pt lk pus:LR9} {st pu go pr:List Rat} {M1 M2 V a1 a2 c B b g p t T w:Nat}
theorem Bd.kry (X:Bd mv pt M1 M2 V a1 a2 c) (D:fY mv pt lk):∀t,∀xs∈kry mv pt t,∀x∈xs,Fr (M1^(t - 1)*M2) (2^(c*t)) x:=by
 intro t
 induction t with
 | zero=>intro xs hx;exact nomatch hx
 | succ t ih =>
  intro xs hx x hx';rcases au.mp (show xs∈pt++(L2.kry mv pt t).map (qD mv) from hx) with hx | hx
  ·refine Fr.up (X.gp xs hx x hx') (xg _ _) (ai X.v1 (ao (by decide) ?_));exact dt _ (by lia)
  ·obtain ⟨ys,hy,rfl⟩:=ay.mp hx;obtain ⟨row,hr,rfl⟩:=ay.mp (show x∈mv.map λzs=>eL zs ys from hx');rcases t with _ | t
   ·exact nomatch hy
   have f:=Fr.dot (X.gm row hr) (ih ys hy);rw[show M1*(M1^(t+1 - 1)*M2)=M1^(t+1+1 - 1)*M2 by rw[<- cx,show t+1 - 1=t by lia,show t+1+1 - 1=t+1 by lia,gH,cv M1]] at f;refine f.mono ?_;rw[D.mw row hr,<- cx,show c*(t+1+1)=c+c*(t+1) by rw[gD c (t+1)];lia,bC 2 c];exact az _ (ai (az V (show mv.length<=mv.length+4 by lia)) X.vc)
end
open PySem.MeetsSeq
section
variable {rows rows0 fs l2 R Hd:LR9} {hd:List Rat} {n P:Nat} {ps psd:List Nat}
def O3 (rows:LR9) (n S:Nat):Prop:=2*S<=3990/\∃J:Nat->LR9->List Nat->Prop,J 0 rows []/\(∀P rs ps,J P rs ps->(∀i,ps.length<=i->i < rs.length->bJ rs i P=0)->J (P+1) rs ps) /\
 (∀P fs ls ps t,J P (fs++ls) ps->fs.length=ps.length->t < ls.length->P < n->(ls.getD t []).getD P 0≠0->(∀j,j < t->bJ ls j P=0)->J (P+1) ((fs.map (xj P (kR P (ls.getD t [])) )++[kR P (ls.getD t [])])++(ls.eraseIdx t).map (xj P (kR P (ls.getD t [])))) (ps++[P])) /\
 (∀P rs ps,J P rs ps->xD rows n P rs ps)/\∀P rs ps,J P rs ps->P<=n->∀i,i < rows.length->∃D:Nat,0 < D/\D<=2^S/\∀c,Tp D (2^S) (bJ rs i c)
theorem Jz.lwt (h:Jz rows n S):O3 rows n S:=by
 obtain ⟨a,J,j0,j1,j2,j3,j4⟩:=h;exact ⟨a,J,j0,j1,λP fs ls ps t h1 h2 h3 h4 h5 _=>j2 P fs ls ps t h1 h2 h3 h4 h5,j3,j4⟩
theorem Tp.neg (h:Tp M W x):Tp M W (-x):=by
 obtain ⟨z,e,b⟩:=h;exact ⟨-z,by rw[Rat.neg_mul,e];exact (cS z).symm,by rw[iQ];exact b⟩
end
section
variable {rows rows' R R' Hd Hd':LR9} {n:Nat} {ps ps' psd psd':List Nat}
theorem Af (RR:aR rows n R ps) (far:∀c,n<=c->x c=0) (hx:∀j,j < ps.length->(bG n λc=>bJ R j c*x c)=0):d5 (a7 R ps n).length (bJ (a7 R ps n)) x:=by
 have Rf:=RR.2.2;have lN:(a7 R ps n).length=(c4 ps n).length:=by unfold a7;rw[ag]
 have fN:∀t,t < (a7 R ps n).length->(c4 ps n).getD t 0 < n/\(c4 ps n).getD t 0∉ps:=λt ht=>js.mp (getD_in (by lia))
 have vN:∀t,t < (a7 R ps n).length->∀c,bJ (a7 R ps n) t c=(tI R ps n ((c4 ps n).getD t 0)).getD c 0:=λt ht c=>by
  have h:t < (c4 ps n).length:=by lia
  unfold bJ a7;rw[aa (l:=List.map _ _),aD,af h,aa (l:=c4 ps n),af h];rfl
 have nd:(c4 ps n).Nodup:=by
  unfold c4;exact DP CA GZ
 refine ⟨λt=>x ((c4 ps n).getD t 0),λc=>?_⟩
 suffices y0:∀c,x c - (bG (a7 R ps n).length λt=>x ((c4 ps n).getD t 0)*bJ (a7 R ps n) t c)=0 by
  have:=y0 c;grind
 have free:∀c,c < n->c∉ps->x c - (bG (a7 R ps n).length λt=>x ((c4 ps n).getD t 0)*bJ (a7 R ps n) t c)=0:=λc hc hp=>by
  obtain ⟨t0,h0,e0⟩:=aQ (js.mpr ⟨hc,hp⟩);have g0:(c4 ps n).getD t0 0=c:=by rw[aa,af h0];exact e0
  rw[c6 (i:=t0) (by lia) λt ht ne=>?_,vN t0 (by lia),nQ hc hp,g0,if_pos rfl]
  ·grind
  ·rw[vN t ht,nQ hc hp,if_neg λz=>ne ?_]
   ·grind
   ·have ht':t < (c4 ps n).length:=by lia
    have z:(c4 ps n)[t]=(c4 ps n)[t0]:=by
     rw[aa,af ht'] at z;rw[e0];exact z.symm
    have pw:=sJ.mp nd;rcases dI t t0 with y | y | y
    ·exact absurd z (pw t t0 ht' h0 y)
    ·exact y
    ·exact absurd z.symm (pw t0 t h0 ht' y)
 have dN:∀j,j < ps.length->∀t,t < (a7 R ps n).length->(bG n λc=>bJ R j c*bJ (a7 R ps n) t c)=0:=λj hj t ht=>by
  have hj':j < R.length:=by rw[RR.1];exact hj
  have wr:=RR.2.1 _ (aO hj');have dz:=BP (sX RR) (fN t ht).1 (fN t ht).2 (af hj') wr;rw[fv (by rw[wr];exact jO.symm),wr] at dz;refine Eq.trans (aJ λc _=>?_) dz;rw[vN t ht];unfold bJ;rw[aa (l:=R),af hj'];rfl
 have dY:∀j,j < ps.length->(bG n λc=>bJ R j c*(x c - (bG (a7 R ps n).length λt=>x ((c4 ps n).getD t 0)*bJ (a7 R ps n) t c)))=0:=λj hj=>by
  have e:∀c,c < n->bJ R j c*(x c - (bG (a7 R ps n).length λt=>x ((c4 ps n).getD t 0)*bJ (a7 R ps n) t c))=bJ R j c*x c+(-1)*(bG (a7 R ps n).length λt=>x ((c4 ps n).getD t 0)*(bJ R j c*bJ (a7 R ps n) t c)):=λc _=>by
   have:(bG (a7 R ps n).length λt=>x ((c4 ps n).getD t 0)*(bJ R j c*bJ (a7 R ps n) t c))=bJ R j c*bG (a7 R ps n).length λt=>x ((c4 ps n).getD t 0)*bJ (a7 R ps n) t c:=by
    rw[<- cy];exact aJ λt _=>by grind
   rw[this];grind
  rw[aJ e,kb,hx j hj,cy,eG,cB (k:=(a7 R ps n).length) λt ht=>?_]
  ·grind
  ·rw[cy,dN j hj t ht];grind
 intro c;by_cases hc:c < n
 ·by_cases hp:c∈ps
  ·obtain ⟨j,hj,ej⟩:=aQ hp;have g:ps.getD j 0=c:=by rw[aa,af hj];exact ej
   have:=dY j hj;rw[c6 (i:=c) hc λc' hc' ne=>?_] at this
   ·have u:=Rf.unit j hj j hj;rw[g,if_pos rfl] at u;rw[u] at this;grind
   ·by_cases hp':c'∈ps
    ·obtain ⟨i,hi,ei⟩:=aQ hp';have gi:ps.getD i 0=c':=by rw[aa,af hi];exact ei
     have u:=Rf.unit j hj i hi;rw[gi,if_neg (λz=>ne (by rw[<- gi,<- g,z]))] at u;rw[u];grind
    ·rw[free c' hc' hp'];grind
  ·exact free c hc hp
 ·rw[far c (by lia),cB λt _=>by rw[oo nP (by lia)];grind];grind
end
inductive z5 (K:FG9) (vs:List V) (H:Hp) (Q:VK) (E9:XK):Prop
 | mk (p:Addr) (n w:Nat) (H0:Hp) (rows R:LR9) (ps:List Nat):vs=[.ref p,.int n]->bB K H0 H p R->R.length<=100->n<=100->aR rows n R ps->Cs R n w->(∀xs∈R,∀x∈xs,mU x)->(∀r H',H r=none->aF H H'->bB K H H' r (a7 R ps n)->Q (.ref r) H')->z5 K vs H Q E9
structure OK (A lk:LR9) (e:Nat):Prop where
 n8:A.length<=8
 wm:∀xs∈A,xs.length=A.length
 wp:∀xs∈lk,xs.length=A.length
 kf:∃a c,mV A lk a c/\A.length*((A.length - 1)*(a+c)+4)<=900/\∀p,p<=A.length->(A.length - p)*(p*((A.length - 1)*(a+c)+4)+4)<=e
 e1:e<=1650
def Pn (A lk:LR9) (n t e:Nat) (Hd:LR9):Prop:=∃R ps psd M,aR (kry A lk t) n R ps/\aR (a7 R ps n) n Hd psd/\psd.length+ps.length=n/\0 < M/\M<=2^e/\∀xs∈Hd,∀x∈xs,Tp M (2^e) x
section
variable {A lk R Hd:LR9} {e T n t:Nat} {ps psd:List Nat}
theorem OK.sw (h:OK A lk e) (RR:aR (kry A lk T) A.length R ps):(∃w,Cs R A.length w)/\(∀xs∈R,∀x∈xs,mU x)/\∃w,Cs (a7 R ps A.length) A.length w/\min (a7 R ps A.length).length A.length*(w+4)<=e/\∃q,0 < q/\∀xs∈a7 R ps A.length,∀x∈xs,Tp q (2^w) x:=by
 obtain ⟨a,c,KF,b1,b2⟩:=h.kf;obtain ⟨q,q0,q1,q2⟩:=KF.rtp h.n8 h.wm h.wp RR;have n8:=h.n8;have le:=RR.le;have lR:=RR.1;have cnt:=mJ RR;have e1:=h.e1;have bp:=b2 ps.length le;generalize (A.length - 1)*(a+c)+4=E at b1 b2 q1 q2 bp;have pE:ps.length*E<=900:=ai (az _ le) b1;have up:∀{m:Nat},900<=m->2^(ps.length*E)<=2^m:=λh=>ao (by decide) (by lia)
 have tn:∀xs∈a7 R ps A.length,∀x∈xs,Tp q (2^(ps.length*E)) x:=λxs hx x hx'=>by
  obtain ⟨a,_,_,rfl⟩:=mI hx;exact Ir q0 q1 q2 RR x hx'
 have bn:min (a7 R ps A.length).length A.length*(ps.length*E+4)<=e:=ai (az _ (show min (a7 R ps A.length).length A.length<=A.length - ps.length by lia)) bp;refine ⟨⟨ps.length*E,q,2^(ps.length*E),q0,ai q1 (up (by decide)),bw,ak _,q2,by lia,by lia,?_⟩,λxs hx x hx'=>rH (q2 xs hx x hx') q0 (ai q1 (up (by decide))) (up (by decide)),ps.length*E,⟨q,2^(ps.length*E),q0,ai q1 (up (by decide)),bw,ak _,tn,by lia,by lia,by lia⟩,bn,q,q0,tn⟩;have:min R.length A.length*(ps.length*E+4)<=8*904:=aI (by lia) (by lia)
 lia
end
inductive xK (K:FG9) (C:Addr) (vs:List V) (H:Hp) (Q:VK) (E9:XK):Prop
 | mk (x:Addr) (T e:Nat) (H0:Hp) (mv pt lk:LR9):vs=[.ref x,.int T]->T<=99->oN K H0 H C x mv pt lk->fY mv pt lk->LQ mv pt lk->OK (bQ mv mv.length) lk e->(∀r Hd H',H r=none->aF H H'->bB K H H' r Hd->Pn (bQ mv mv.length) lk mv.length T e Hd->Q (.ref r) H')->xK K C vs H Q E9
def StT (n w T:Nat):Prop:=T<=12/\(9 < w->T<=3)/\(3 < n->n<=5->T<=5)/\(n=3->T<=6)
structure V51 (A lk:LR9) (T e:Nat):Prop where
 un:OK A lk e
 ad:Nt A lk T
 lw:∃S,O3 (kry A lk T) A.length S
 ft:∃k j,2*e+k+j<=3930/\∀xs∈kry A lk T,p3 k j xs
section
variable {A lk pk:LR9} {T w e:Nat}
theorem DF (B:Bd A lk M1 M2 Vx a1 a2 c) (D:fY A lk pk) (hn:A.length<=n) (n15:n<=15) (sz:2*(n*(c*T+(a1*(T - 1)+a2)+4)+(a1*(T - 1)+a2))<=3990):(∃S,O3 (kry A lk T) A.length S)/\∀xs∈kry A lk T,p3 (a1*(T - 1)+a2) (c*T) xs:=by
 have f:=B.kry D T;have M0:0 < M1^(T - 1)*M2:=cw (uH B.m1) B.m2
 have hM:M1^(T - 1)*M2<=2^(a1*(T - 1)+a2):=by
  rw[bC];exact aI (ai (jG B.b1 _) (by rw[<- uI];exact ak _)) B.b2
 refine ⟨⟨_,(JA.lws (w:=c*T+(a1*(T - 1)+a2)) (a:=a1*(T - 1)+a2) ⟨_,2^(c*T+(a1*(T - 1)+a2)),M0,hM,bw,ak _,λxs hx x hx'=>Tp.of (f xs hx x hx') (by rw[bC];exact bD _ hM),by lia,?_⟩ (fq rfl D.pw T)).lwt⟩,λxs hx=>⟨_,_,M0,hM,ak _,f xs hx⟩⟩;have:min (kry A lk T).length A.length*(c*T+(a1*(T - 1)+a2)+4)<=n*(c*T+(a1*(T - 1)+a2)+4):=az _ (by lia)
 lia
theorem J6 (G:Rg A lk w) (D:fY A lk pk) (St:StT A.length w T):∃e,V51 A lk T e:=by
 obtain ⟨s1,s2,s3,s4⟩:=St;have tri:∀{n N:Nat} (E e:Nat),n<=N->(∀p,p<=N->(N - p)*(p*E+4)<=e)->∀p,p<=n->(n - p)*(p*E+4)<=e:=λE e hn h p hp=>ai (az _ (by lia)) (h p (by lia))
 rcases G with ⟨_,B⟩ | ⟨_,n5,B⟩ | ⟨w1,n2,M1,M2,B⟩
 ·obtain ⟨l1,l2⟩:=DF (T:=T) (n:=8) B D D.n8 (by decide) (by lia);refine ⟨1650,⟨D.n8,D.mw,D.pw,⟨0,14,oj (M:=1) (V1:=9^3) (n0:=8) (by decide) (by decide) D.n8 (by decide) B.gm B.gp (by decide),?_,λp hp=>?_⟩,by decide⟩,⟨_,_,_,_,_,_,B,by lia⟩,l1,⟨_,_,by lia,l2⟩⟩
  ·exact ai (aI D.n8 (show (A.length - 1)*(0+14)+4<=102 by have:=D.n8;lia)) (by decide)
  ·have:=tri 102 1650 D.n8 (by decide) p hp;exact ai (bD _ (AY (bD _ (by have:=D.n8;lia)) _)) this
 ·obtain ⟨l1,l2⟩:(∃S,O3 (kry A lk T) A.length S)/\∀xs∈kry A lk T,p3 (12*(T - 1)+12) (16*T) xs:=by
   rcases (show A.length<=2\/A.length=3\/3 < A.length by lia) with h | h | h
   ·exact DF (n:=2) B D h (by decide) (by lia)
   ·have:=s4 h;exact DF (n:=3) B D (by lia) (by decide) (by lia)
   ·have:=s3 h n5;exact DF (n:=5) B D n5 (by decide) (by lia)
  refine ⟨720,⟨D.n8,D.mw,D.pw,⟨12,16,oj (M:=2520) (V1:=9^3*9) (n0:=5) (by decide) (by decide) n5 (by decide) B.gm B.gp (by decide),?_,λp hp=>?_⟩,by decide⟩,⟨_,_,_,_,_,_,B,by lia⟩,l1,⟨_,_,by lia,l2⟩⟩
  ·exact ai (aI n5 (show (A.length - 1)*(12+16)+4<=116 by lia)) (by decide)
  ·have:=tri 116 720 n5 (by decide) p hp;exact ai (bD _ (AY (bD _ (by lia)) _)) this
 ·have t3:=s2 (by lia);obtain ⟨l1,l2⟩:=DF (T:=T) (n:=2) B D n2 (by decide) (by lia);have fm:GF (M1*M2) (9^3*2^20) A:=λxs hx x hx'=>(B.gm xs hx x hx').scale M2
  have fp:GF (M1*M2) (9^3*2^20) lk:=λxs hx x hx'=>(B.gp xs hx x hx').scaleL M1
  have hM:M1*M2<=2^240:=ai (aI B.b1 B.b2) (by rw[<- bC];exact ak _);refine ⟨600,⟨D.n8,D.mw,D.pw,⟨240,32,oj (n0:=2) (cw B.m1 B.m2) hM n2 (by decide) fm fp (by decide),?_,λp hp=>?_⟩,by decide⟩,⟨_,_,_,_,_,_,B,by lia⟩,l1,⟨_,_,by lia,l2⟩⟩
  ·exact ai (aI n2 (show (A.length - 1)*(240+32)+4<=276 by lia)) (by decide)
  ·have:=tri 276 600 n2 (by decide) p hp;exact ai (bD _ (AY (bD _ (by lia)) _)) this
theorem sI.symm (h:sI xs ys):sI ys xs:=by obtain ⟨k,j,k',j',a,b,c⟩:=h;exact ⟨k',j',k,j,b,a,by lia⟩
end
theorem yr:∀{bs:List Bool} {ys:List V},Paired (λb y=>y=V.bl b) bs ys->ys=bs.map V.bl
 | _,_,.nil=>rfl
 | _,_,.cons h t=>by rw[h,yr t];rfl
section
variable {rows ends:LR9} {row due:List Rat} {n:Nat}
theorem mul_pow (h:a<=2^c) (h':b<=2^d):a*b<=2^(c+d):=by
 rw[bC];exact aI h h'
end
theorem KE:((0 - (nm x).1,(nm x).2):Int×Int)=nm (-x):=by
 unfold nm;rw[Rat.neg_num,Rat.neg_den,Int.zero_sub]
section
variable {mv:LR9} {M:Int}
theorem EI:(iN n a).length=n:=by unfold iN;rw[ag,bR]
end
section
variable {mv pt lk F R:LR9} {n m:Nat} {ps:List Nat} {x:Nat->Rat} {st pu:List Rat}
end
inductive xT (K:FG9) (vs:List V) (H:Hp) (Q:VK) (E9:XK):Prop
 | mk (p q:Addr) (w:Nat) (H0 H1:Hp) (one other:LR9):vs=[.ref p,.ref q,.int w]->bB K H0 H p one->bB K H1 H q other->one.length<=1000->other.length<=1000->w<=1000->((∀xs∈one,xs.length=other.length/\∀ys∈bQ other w,sI ys xs))->(∀xs∈other,xs.length=w)->(∀r H',H r=none->aF H H'->bB K H H' r (fK one other w)->Q (.ref r) H')->xT K vs H Q E9
def ND (mv R:LR9) (ps:List Nat):LR9:=(fK (a7 R ps mv.length) mv mv.length).map λrow=>(c4 ps mv.length).map λpl=>row.getD pl 0
structure Nh (mv pt:LR9) (w T M1 M2 V a1 a2 c a0 c0 b:Nat):Prop where
 bd:Bd mv pt M1 M2 V a1 a2 c
 kf:mV mv pt a0 c0
 nm:∀r,r<=mv.length->2*((mv.length - r)*(r*((mv.length - 1)*(a0+c0)+4)+4)+r*((mv.length - 1)*(a0+c0)+4))<=3990
 kl:2*(mv.length*(c*mv.length+(a1*(mv.length - 1)+a2)+4)+(a1*(mv.length - 1)+a2))<=3990
 dr:∀l:List Rat,(∀x∈l,Dr (max w 6) x)->l.length<=mv.length+T*pt.length->∃B,0 < B/\B<=2^b/\∀x∈l,Fr B (2^22) x
 sz:4*(mv.length*((mv.length - 1)*(a0+c0)+4))+(a1+c)+(a1*(T+2)+a2+b+c*(T+2)+22)+20<=3900
section
variable {mv pt lk R:LR9} {ps:List Nat} {w T M1 M2 V a1 a2 c a0 c0 b:Nat}
theorem Pe:∀n,n < 9->∀r,r < 9->decide (r<=n->2*((n - r)*(r*((n - 1)*(0+13)+4)+4)+r*((n - 1)*(0+13)+4))<=3990)=true:=by decide +kernel
theorem Pd:∀n,n < 6->∀r,r < 6->decide (r<=n->2*((n - r)*(r*((n - 1)*(12+16)+4)+4)+r*((n - 1)*(12+16)+4))<=3990)=true:=by decide +kernel
theorem Pc:∀n,n < 3->∀r,r < 3->decide (r<=n->2*((n - r)*(r*((n - 1)*(240+32)+4)+4)+r*((n - 1)*(240+32)+4))<=3990)=true:=by decide +kernel
theorem Pb:∀n,n < 3->∀r,r < 3->decide (r<=n->2*((n - r)*(r*((n - 1)*(12+12)+4)+4)+r*((n - 1)*(12+12)+4))<=3990)=true:=by decide +kernel
theorem Oc (R:Rg mv pt w) (D:fY mv pt lk) (S:StP mv pt T):∃M1 M2 V a1 a2 c a0 c0 b,Nh mv pt w (T+1) M1 M2 V a1 a2 c a0 c0 b:=by
 have i4:=D.i4;have n8:=D.n8;have small:w<=9->∀l:List Rat,(∀x∈l,Dr (max w 6) x)->l.length<=mv.length+(T+1)*pt.length->∃B,0 < B/\B<=2^12/\∀x∈l,Fr B (2^22) x:=λw9 l h _=>⟨2520,by decide,by decide,λx hx=>(Jk ⟨ai (h x hx).1 (by lia),ai (h x hx).2 (by lia)⟩ (Nat.dvd_refl _)).mono (by decide)⟩
 have wide:w=1000->∀t,(T+1)*pt.length<=t->mv.length<=2->∀l:List Rat,(∀x∈l,Dr (max w 6) x)->l.length<=mv.length+(T+1)*pt.length->∃B,0 < B/\B<=2^(22+10*t)/\∀x∈l,Fr B (2^22) x:=λw9 t ht n2 l h hl=>by
  obtain ⟨B,h0,h1,h2⟩:=GH (c:=10) (l:=l) (λx hx=>⟨ai (h x hx).1 (by rw[w9];decide),ai (h x hx).2 (by rw[w9];decide)⟩) (by decide);exact ⟨B,h0,ai h1 (ao (by decide) (by lia)),h2⟩
 have mul:∀{x y p q:Nat},x<=p->y<=q->x*y<=p*q:=λh h'=>aI h h'
 have T12:=S.1;rcases R with ⟨w9,X⟩ | ⟨w9,n5,X⟩ | ⟨w9,n2,M1,M2,X⟩
 ·have k1:(8+1)*9^3<=2^13:=by decide
  have e8:mv.length*((mv.length - 1)*(0+13)+4)<=8*95:=mul n8 (by lia);have e9:mv.length*(14*mv.length+(0*(mv.length - 1)+0)+4)<=8*116:=mul n8 (by lia);exact ⟨_,_,_,_,_,_,0,13,12,X,oj (n0:=8) X.m1 (by decide) n8 k1 X.gm X.gp (by decide),λr hr=>of_decide_eq_true (Pe _ (by lia) r (by lia)) hr,by lia,small w9,by lia⟩
 ·have k1:(5+1)*(9^3*9)<=2^16:=by decide
  have e8:mv.length*((mv.length - 1)*(12+16)+4)<=5*116:=mul n5 (by lia);have e9:mv.length*(16*mv.length+(12*(mv.length - 1)+12)+4)<=5*144:=mul n5 (by lia);exact ⟨_,_,_,_,_,_,12,16,12,X,oj (n0:=5) X.m1 (by decide) n5 k1 X.gm X.gp (by decide),λr hr=>of_decide_eq_true (Pd _ (by lia) r (by lia)) hr,by lia,small w9,by lia⟩
 ·by_cases T3:T<=3
  ·have m:(T+1)*pt.length<=4*4:=mul (by lia) i4;have k1:(2+1)*(9^3*2^20)<=2^32:=by decide
   have e8:mv.length*((mv.length - 1)*(240+32)+4)<=2*276:=mul n2 (by lia);have e9:mv.length*(33*mv.length+(80*(mv.length - 1)+160)+4)<=2*310:=mul n2 (by lia);have gm:GF (M1*M2) (9^3*2^20) mv:=λxs hx x hx'=>(X.gm xs hx x hx').dvd (Nat.dvd_mul_right _ _)
   have gp:GF (M1*M2) (9^3*2^20) pt:=λxs hx x hx'=>(X.gp xs hx x hx').dvd (xg _ _)
   exact ⟨M1,M2,_,80,160,33,240,32,182,X,oj (n0:=2) (cw X.m1 X.m2) (mul_pow X.b1 X.b2) n2 k1 gm gp (by decide),λr hr=>of_decide_eq_true (Pc _ (by lia) r (by lia)) hr,by lia,wide w9 16 m n2,by lia⟩
  ·obtain ⟨_,z | ⟨hd,_⟩⟩:=S
   ·exact absurd z T3
   have m:(T+1)*pt.length<=13*4:=mul (by lia) i4
   have gf:∀l:LR9,(∀xs∈l,xs∈mv++pt)->GF 2520 1000 l:=λl hl xs hx x hx'=>by
    have:=hd xs (hl xs hx) x hx';exact (Fr.own x (aN this.2)).dvd (FA this.1)
   have X2:Bd mv pt 2520 2520 1000 12 12 13:=⟨by decide,by decide,by decide,by decide,gf mv λxs hx=>au.mpr (.inl hx),gf pt λxs hx=>au.mpr (.inr hx),ai (az _ (show mv.length+4<=6 by lia)) (by decide)⟩;have k1:(2+1)*1000<=2^12:=by decide
   have e8:mv.length*((mv.length - 1)*(12+12)+4)<=2*28:=mul n2 (by lia);have e9:mv.length*(13*mv.length+(12*(mv.length - 1)+12)+4)<=2*54:=mul n2 (by lia);exact ⟨2520,2520,1000,12,12,13,12,12,542,X2,oj (n0:=2) (by decide) (by decide) n2 k1 X2.gm X2.gp (by decide),λr hr=>of_decide_eq_true (Pb _ (by lia) r (by lia)) hr,by lia,wide w9 52 m n2,by lia⟩
end
structure Pw (mv pt R:LR9) (ps:List Nat):Prop where
 sz:∀xs∈a7 R ps mv.length,∀x∈xs,mU x
 su:∀xs∈ND mv R ps,∀x∈xs,mU x
 lw:∃S,Jz (a7 R ps mv.length) mv.length S
 rk:∀Hd psd,aR (a7 R ps mv.length) mv.length Hd psd->psd.length=(a7 R ps mv.length).length
 fp:∀z∈a7 R ps mv.length,∀xs∈pt,sI z xs
section
variable {mv pt lk R:LR9} {ps:List Nat} {w T M1 M2 V a1 a2 c a0 c0 b:Nat} {st:List Rat}
theorem Nh.nt (Y:Nh mv pt w T M1 M2 V a1 a2 c a0 c0 b) (D:fY mv pt lk) (RR:aR (kry mv pt mv.length) mv.length R ps):∃q,0 < q/\q<=2^(ps.length*((mv.length - 1)*(a0+c0)+4))/\∀xs∈a7 R ps mv.length,∀x∈xs,Tp q (2^(ps.length*((mv.length - 1)*(a0+c0)+4))) x:=by
 obtain ⟨q,q0,q1,q2⟩:=Y.kf.rtp D.n8 D.mw D.pw RR;refine ⟨q,q0,q1,λxs hx=>?_⟩;obtain ⟨z,_,_,rfl⟩:=mI hx;exact Ir q0 q1 q2 RR
theorem Nh.un (Y:Nh mv pt w T M1 M2 V a1 a2 c a0 c0 b) (D:fY mv pt lk) (RR:aR (kry mv pt mv.length) mv.length R ps):∃q,0 < q/\q<=2^(mv.length*((mv.length - 1)*(a0+c0)+4))/\(∀xs∈a7 R ps mv.length,∀x∈xs,Fr q (2^(mv.length*((mv.length - 1)*(a0+c0)+4))) x)/\∀xs∈ND mv R ps,∀x∈xs,Fr (M1*q) (2^(c+mv.length*((mv.length - 1)*(a0+c0)+4))) x:=by
 obtain ⟨q,q0,q1,q2⟩:=Y.nt D RR;have le:=RR.le;have up:2^(ps.length*((mv.length - 1)*(a0+c0)+4))<=2^(mv.length*((mv.length - 1)*(a0+c0)+4)):=ao (by decide) (az _ le);have fr:∀xs∈a7 R ps mv.length,∀x∈xs,Fr q (2^(mv.length*((mv.length - 1)*(a0+c0)+4))) x:=λxs hx x hx'=>((q2 xs hx x hx').fr q0).mono up
 refine ⟨q,q0,ai q1 up,fr,λxs hx x hx'=>?_⟩;obtain ⟨row,hr,rfl⟩:=ay.mp hx;obtain ⟨pl,_,rfl⟩:=ay.mp hx';obtain ⟨z,hz,rfl⟩:=ay.mp hr;rw[aa,aD];cases e:(bQ mv mv.length)[pl]? with
 | none=>exact Fr.zero
 | some ys =>
  have my:=ax e;have f:=Fr.dot (sO Y.bd.gm ys my) (fr z hz);refine f.mono ?_;rw[mE ys my,bC,<- cx];exact az _ (ai (az V (show mv.length<=mv.length+4 by lia)) Y.bd.vc)
theorem Nh.nu (Y:Nh mv pt w T M1 M2 V a1 a2 c a0 c0 b) (D:fY mv pt lk) (RR:aR (kry mv pt mv.length) mv.length R ps):Pw mv pt R ps:=by
 obtain ⟨q,q0,q1,fN,fU⟩:=Y.un D RR;obtain ⟨q',q0',q1',tN⟩:=Y.nt D RR;have sz:=Y.sz;have le:=RR.le;have n8:=D.n8;have nc:=mJ RR;generalize hE:mv.length*((mv.length - 1)*(a0+c0)+4)=E at *
 have x1:0<=a1*(T+2):=bu _;refine ⟨λxs hx x hx'=>Cb q0 q1 (ak _) (by lia) (fN xs hx x hx'),λxs hx x hx'=>Cb (a:=a1+E) (cw Y.bd.m1 q0) ?_ (ak _) (by lia) (fU xs hx x hx'),⟨_,JA.lws (w:=ps.length*((mv.length - 1)*(a0+c0)+4)) (a:=ps.length*((mv.length - 1)*(a0+c0)+4)) ⟨q',_,q0',q1',bw,ak _,tN,by lia,?_⟩ nP⟩,λHd psd RN=>?_,λz hz xs hx=>⟨E,E,a2,c,⟨q,_,q0,q1,ak _,fN z hz⟩,⟨M2,V,Y.bd.m2,Y.bd.b2,?_,Y.bd.gp xs hx⟩,?_⟩⟩
 ·rw[bC];exact aI Y.bd.b1 q1
 ·have:=Y.nm ps.length le;rw[show min (a7 R ps mv.length).length mv.length=mv.length - ps.length by lia];exact this
 ·have:=yD RR bw q0' tN RN
  lia
 ·exact ai (dJ _ (by lia)) Y.bd.vc
 ·lia
end
section
variable {X:Cx} {CX:Ju} {k:Nat} {f C:Addr} {fd:FuncData} {ps:List Str} {sp:Sp} {dvs:List V} {ds:List Value} {E:St->XK} {x n:Str} {p pos hpos np:Pos} {e:Expr} {es:List Expr} {t:TA}
end
open PySem.W
def IS (inv mv rows:LR9) (n:Nat):LR9:=fK (fK inv mv n) (bQ rows n) n
def Nx (inv pt:LR9):LR9:=pt.map λxs=>inv.map λr=>eL r xs
theorem Dv {rows:LR9} (h:rows[i]?=some xs):bJ (rows.map f) i j=(f xs).getD j 0:=by
 unfold bJ;rw[aa (l:=rows.map f),aD,h];rfl
theorem jf (h:rows[i]?=some xs):bJ rows i j=xs.getD j 0:=by
 unfold bJ;rw[aa (l:=rows),h];rfl
theorem KG {rows:LR9} {f:List Rat->Rat} (h:rows[i]?=some xs):(rows.map f).getD i 0=f xs:=by
 rw[aa,aD,h];rfl
theorem Mg {f:Nat->Rat} (h:i < n):((List.range n).map f).getD i 0=f i:=by
 rw[aa,aD,cT h];rfl
theorem jA (h:i < w):bJ (bQ rows w) i j=bJ rows j i:=by
 unfold bQ;rw[jf (xs:=rows.map λxs=>xs.getD i 0) (by rw[aD,cT h];rfl)];unfold bJ;rw[aa,aa (l:=rows),aD];cases rows[j]? <;> rfl
theorem HC (hi:i < one.length) (ho:∀xs∈one,xs.length=other.length) (hj:j < w):bJ (fK one other w) i j=bG other.length λl=>bJ one i l*bJ other l j:=by
 have e:=af hi;have l:=ho _ (aO hi);unfold fK;rw[Dv e];unfold bQ;rw[lh,Mg hj];show eL (other.map λxs=>xs.getD j 0) _=_
 rw[fv (by rw[ag];lia),ag];refine aJ λa ha=>?_
 rw[jf e,cF];congr 1;rw[KG (af ha),jf (af ha)]
section
variable {inv mv pt lk rows:LR9} {n:Nat} {own pu:List Rat}
theorem qe (hi:zC inv n):(IS inv mv rows n).length=n:=by unfold IS fK;rw[ag,ag,hi.1]
theorem LA:∀xs∈IS inv mv rows n,xs.length=n:=λxs hx=>by
 unfold IS fK at hx;obtain ⟨ys,_,rfl⟩:=ay.mp hx;rw[ag,cW]
theorem La:∀xs∈fK one other n,xs.length=n:=λxs hx=>by
 unfold fK at hx;obtain ⟨ys,_,rfl⟩:=ay.mp hx;rw[ag,cW]
theorem MZ (hi:zC inv n) (hm:zC mv n) (h1:i < n) (h2:k < n):bJ (IS inv mv rows n) i k=bG n λc=>(bG n λa=>bJ inv i a*bJ mv a c)*bJ rows k c:=by
 unfold IS;rw[HC (by unfold fK;rw[ag,hi.1];exact h1) (λxs hx=>by rw[cW];exact La xs hx) h2,cW];refine aJ λc hc=>?_
 rw[jA hc,HC (by rw[hi.1];exact h1) (λxs hx=>by rw[hi.2 xs hx,hm.1]) hc,hm.1]
theorem sN (hr:zC rows n):zC (bQ rows n) n:=⟨cW,λxs hx=>by rw[mE xs hx,hr.1]⟩
end
theorem tO {M V w:Nat} (h:GF M V rows):GF M V (bQ rows w):=λys hy y hy'=>by
 obtain ⟨j,_,rfl⟩:=ay.mp hy;obtain ⟨xs,hx,rfl⟩:=ay.mp hy';rw[aa];cases e:xs[j]? with
 | none=>exact Fr.zero
 | some z=>exact h xs hx z (ax e)
theorem kS {M V k j:Nat} (h:GF M V rows) (M0:0 < M) (hM:M<=2^k) (hV:V<=2^j):∀xs∈rows,p3 k j xs:=λxs hx=>⟨M,V,M0,hM,hV,h xs hx⟩
theorem Ep {M V k j:Nat} (h:GF M V rows) (M0:0 < M) (hM:M<=2^k) (hV:V<=2^j) (hk:k+j<=3990):∀xs∈rows,∀x∈xs,mU x:=λxs hx x hx'=>Cb M0 hM hV hk (h xs hx x hx')
theorem Dt {M N V W w:Nat} (h1:GF N W one) (h2:GF M V other):GF (M*N) (other.length*(V*W)) (fK one other w):=λxs hx x hx'=>by
 unfold fK at hx;obtain ⟨os,ho,rfl⟩:=ay.mp hx;obtain ⟨ys,hy,rfl⟩:=ay.mp hx';have l:=mE ys hy;rw[<- l];exact Fr.dot (tO h2 ys hy) (h1 os ho)
theorem LG {M N V W n:Nat} (h1:GF N W one) (h2:GF M V other) (hw:∀xs∈one,xs.length=n):GF (N*M) (n*(W*V)) (other.map λxs=>one.map λr=>eL r xs):=λzs hz z hz'=>by
 obtain ⟨xs,hx,rfl⟩:=ay.mp hz;obtain ⟨r,hr,rfl⟩:=ay.mp hz';have:=Fr.dot (h1 r hr) (h2 xs hx);rwa [hw r hr] at this
theorem xB {M V W:Nat} (h:GF M V rows) (hv:V<=W):GF M W rows:=λxs hx x hx'=>(h xs hx x hx').mono hv
section
variable {mv pt lk rows inv:LR9} {M1 M2 V a1 a2 c Mr D n:Nat}
theorem Lu (h1:x<=2^i) (h2:y<=2^j) (h:i+j<=k):x*y<=2^k:=ai (aI h1 h2) (by rw[<- bC];exact ao (by decide) h)
structure F71 (mv pt lk rows inv:LR9):Prop where
 f1:∀xs∈inv,∀ys∈bQ mv mv.length,sI ys xs
 f2:∀xs∈fK inv mv mv.length,∀ys∈bQ (bQ rows mv.length) mv.length,sI ys xs
 f3:∀ys∈pt,∀xs∈inv,sI xs ys
 f4:∀ys∈lk,∀xs∈rows,sI xs ys
 g1:K6 (IS inv mv rows mv.length)
 g2:K6 (Nx inv pt)
 g3:K6 (lk.map λxs=>rows.map λr=>eL r xs)
end
theorem Fs (D:fY mv pt lk) (hi:zC inv mv.length) (hr:zC rows mv.length):fY (IS inv mv rows mv.length) (Nx inv pt) (lk.map λxs=>rows.map λr=>eL r xs):=by
 have lM:=qe (mv:=mv) (rows:=rows) hi;refine ⟨by rw[lM];exact D.n8,by unfold Nx;rw[ag];exact D.i4,by rw[ag];exact D.o4,λxs hx=>by rw[lM];exact LA xs hx,λxs hx=>?_,λxs hx=>?_⟩
 ·obtain ⟨ys,_,rfl⟩:=ay.mp hx;rw[ag,lM,hi.1]
 ·obtain ⟨ys,_,rfl⟩:=ay.mp hx;rw[ag,lM,hr.1]
def uK (R:LR9) (ps:List Nat) (n:Nat):LR9:=R++(c4 ps n).map λa=>iN n ((a:Nat):Int)
def stC (R:LR9) (ps:List Nat) (n:Nat):LR9:=ps.map (λa=>iN n ((a:Nat):Int))++a7 R ps n
theorem Hv (h:c < n):(iN n ((a:Nat):Int)).getD c 0=if c=a then 1 else 0:=by
 unfold iN;rw[aa,aD,cT h];by_cases e:c=a
 ·subst e;simp
 ·have:¬(c:Int)=(a:Int):=by lia
  simp [this,e]
theorem IB {l:List Nat} (h:t < l.length):bJ (l.map f) t c=(f (l.getD t 0)).getD c 0:=by
 unfold bJ;rw[aa (l:=List.map f l),aD,aa (l:=l),af h];rfl
theorem Fx (hs:s < (c4 ps n).length) (ht:t < (c4 ps n).length) (e:(c4 ps n).getD s 0=(c4 ps n).getD t 0):s=t:=by
 have nd:(c4 ps n).Nodup:=DP CA GZ;rw[aa,aa,af hs,af ht] at e;exact (List.getElem_inj nd).mp e
section
variable {rows R mv pt:LR9} {ps:List Nat} {n:Nat}
theorem By (RR:aR rows n R ps) (hi:i < ps.length) (hj:j < ps.length) (e:ps.getD i 0=ps.getD j 0):i=j:=by
 rcases dI i j with q | q | q
 ·have:=RR.2.2.inc i j q hj;lia
 ·exact q
 ·have:=RR.2.2.inc j i q hi;lia
theorem tP (RR:aR rows n R ps):(c4 ps n).length+ps.length=n:=Jc RR.2.2.inc RR.2.2.low
theorem Fw (ht:t < (c4 ps n).length):(c4 ps n).getD t 0 < n/\(c4 ps n).getD t 0∉ps:=js.mp (getD_in ht)
theorem EN (RR:aR rows n R ps) (ha:a < ps.length):bJ (uK R ps n) a i=bJ R a i:=by
 unfold uK;rw[vH (by rw[RR.1];exact ha)]
theorem EM (RR:aR rows n R ps) (ht:t < (c4 ps n).length) (hi:i < n):bJ (uK R ps n) (ps.length+t) i=if i=(c4 ps n).getD t 0 then 1 else 0:=by
 unfold uK;rw[<- RR.1,ox,IB ht,Hv hi]
theorem HH (ha:a < ps.length) (hi:i < n):bJ (stC R ps n) a i=if i=ps.getD a 0 then 1 else 0:=by
 unfold stC;rw[vH (by rw[ag];exact ha),IB ha,Hv hi]
theorem EL (ht:t < (c4 ps n).length):bJ (stC R ps n) (ps.length+t) i=(tI R ps n ((c4 ps n).getD t 0)).getD i 0:=by
 unfold stC a7;have:=ox (X:=ps.map λa=>iN n ((a:Nat):Int)) (Y:=(c4 ps n).map (tI R ps n)) (i:=t);rw[ag] at this;rw[this,IB ht]
theorem JS (RR:aR rows n R ps):zC (uK R ps n) n:=by
 have:=tP RR;refine ⟨by unfold uK;rw[av,ag,RR.1];lia,λxs hx=>?_⟩;rcases au.mp hx with hx | hx
 ·exact RR.2.1 xs hx
 ·obtain ⟨a,_,rfl⟩:=ay.mp hx;exact EI
theorem JR (RR:aR rows n R ps):zC (stC R ps n) n:=by
 have:=tP RR;refine ⟨by unfold stC a7;rw[av,ag,ag];lia,λxs hx=>?_⟩;rcases au.mp hx with hx | hx
 ·obtain ⟨a,_,rfl⟩:=ay.mp hx;exact EI
 ·exact nP xs hx
theorem Ff (RR:aR rows n R ps) (hj:j < ps.length) (ha:a∉ps):(tI R ps n a).getD (ps.getD j 0) 0=-(bJ R j a):=by
 unfold tI;rw[Iu (RR.2.2.low j hj),if_neg (λe=>ha (by rw[<- e];exact getD_in hj)),c6 hj λi hi ne=>if_neg λz=>ne (By RR hi hj z),if_pos rfl]
theorem Fg (RR:aR rows n R ps) (ht:t < (c4 ps n).length) (hk:k < ps.length):(bG n λj=>(tI R ps n ((c4 ps n).getD t 0)).getD j 0*bJ R k j)=0:=by
 obtain ⟨f1,f2⟩:=Fw ht;have hk':k < R.length:=by rw[RR.1];exact hk
 have w:=RR.2.1 _ (aO hk');have d:=BP (sX RR) f1 f2 (af hk') w;rw[fv (by rw[w];exact jO.symm),w] at d;refine Eq.trans (aJ λj _=>?_) d;rw[jf (af hk'),cF]
theorem NW (RR:aR rows n R ps):GR (stC R ps n) (bQ (uK R ps n) n) n:=λi hi k hk=>by
 have cn:=tP RR;rw[aJ (g:=λj=>bJ (stC R ps n) i j*bJ (uK R ps n) k j) λj hj=>by rw[jA hj]];rcases bP i ps.length with h1 | h1
 ·have lo:=RR.2.2.low i h1;rw[c6 lo λj hj ne=>by rw[HH h1 hj,if_neg ne,kY],HH h1 lo,if_pos rfl,kE];rcases bP k ps.length with h2 | h2
  ·rw[EN RR h2,RR.2.2.unit k h2 i h1];by_cases e:i=k
   ·rw[if_pos e,if_pos e.symm]
   ·rw[if_neg e,if_neg λz=>e z.symm]
  ·obtain ⟨t,rfl⟩:=kF h2;have ht:t < (c4 ps n).length:=by lia
   rw[EM RR ht lo,if_neg (λe=>(Fw ht).2 (by rw[<- e];exact getD_in h1)),if_neg (by lia)]
 ·obtain ⟨s,rfl⟩:=kF h1;have hs:s < (c4 ps n).length:=by lia
  rcases bP k ps.length with h2 | h2
  ·rw[aJ (g:=λj=>(tI R ps n ((c4 ps n).getD s 0)).getD j 0*bJ R k j) λj _=>by rw[EL hs,EN RR h2],Fg RR hs h2,if_neg (by lia)]
  ·obtain ⟨t,rfl⟩:=kF h2;have ht:t < (c4 ps n).length:=by lia
   obtain ⟨f1,f2⟩:=Fw ht;rw[c6 f1 λj hj ne=>by rw[EM RR ht hj,if_neg ne,cV],EM RR ht f1,if_pos rfl,uG,EL hs,nQ f1 f2];by_cases e:s=t
   ·subst e;rw[if_pos rfl,if_pos rfl]
   ·rw[if_neg λz=>e (Fx ht hs z).symm,if_neg (by lia)]
theorem NV (RR:aR rows n R ps):GR (bQ (uK R ps n) n) (stC R ps n) n:=λi hi k hk=>by
 have cn:=tP RR;rw[aJ (g:=λj=>bJ (uK R ps n) j i*bJ (stC R ps n) j k) λj _=>by rw[jA hi]]
 have sp:bG n (λj=>bJ (uK R ps n) j i*bJ (stC R ps n) j k)=bG ps.length (λj=>bJ (uK R ps n) j i*bJ (stC R ps n) j k)+bG (c4 ps n).length λt=>bJ (uK R ps n) (ps.length+t) i*bJ (stC R ps n) (ps.length+t) k:=by
  rw[<- p7,show ps.length+(c4 ps n).length=n by lia]
 rw[sp,aJ (g:=λj=>bJ R j i*if k=ps.getD j 0 then 1 else 0) λj hj=>by rw[EN RR hj,HH hj hk]];rw[aJ (k:=(c4 ps n).length) (g:=λt=>(if i=(c4 ps n).getD t 0 then 1 else 0)*(tI R ps n ((c4 ps n).getD t 0)).getD k 0) λt ht=>by rw[EM RR ht hi,EL ht]]
 have e1:∀j,j < ps.length->ps.getD j 0=k->(bG ps.length λj=>bJ R j i*if k=ps.getD j 0 then 1 else 0)=bJ R j i:=λj hj e=>by
  rw[c6 hj λl hl ne=>by rw[if_neg λz=>ne (By RR hl hj (by rw[<- z,e])),cV],if_pos e.symm,uG]
 have e1':k∉ps->(bG ps.length λj=>bJ R j i*if k=ps.getD j 0 then 1 else 0)=0:=λh=>cB λj hj=>by rw[if_neg λz=>h (by rw[z];exact getD_in hj),cV]
 have e2:i∉ps->(bG (c4 ps n).length λt=>(if i=(c4 ps n).getD t 0 then 1 else 0)*(tI R ps n ((c4 ps n).getD t 0)).getD k 0)=(tI R ps n i).getD k 0:=λh=>by
  obtain ⟨t,ht,et⟩:=aQ (js.mpr ⟨hi,h⟩);have eg:(c4 ps n).getD t 0=i:=by rw[aa,af ht,et];rfl
  rw[c6 ht λs hs ne=>by rw[if_neg λz=>ne (Fx hs ht (by rw[<- z,eg])),kY],if_pos eg.symm,kE,eg]
 have e2':i∈ps->(bG (c4 ps n).length λt=>(if i=(c4 ps n).getD t 0 then 1 else 0)*(tI R ps n ((c4 ps n).getD t 0)).getD k 0)=0:=λh=>cB λt ht=>by rw[if_neg λz=>(Fw ht).2 (by rw[<- z];exact h),kY]
 have ix:∀{x},x∈ps->∃j,j < ps.length/\ps.getD j 0=x:=λh=>by
  obtain ⟨j,hj,e⟩:=aQ h;exact ⟨j,hj,by rw[aa,af hj,e];rfl⟩
 by_cases pk:k∈ps
 ·obtain ⟨j,hj,ej⟩:=ix pk;rw[e1 j hj ej];by_cases pi:i∈ps
  ·obtain ⟨l,hl,el⟩:=ix pi;rw[e2' pi,qh,<- el,RR.2.2.unit j hj l hl,<- ej];by_cases e:j=l
   ·subst e;rw[if_pos rfl,if_pos rfl]
   ·rw[if_neg e,if_neg λz=>e (By RR hl hj z).symm]
  ·rw[e2 pi,<- ej,Ff RR hj pi,ej,if_neg λz=>pi (by rw[z];exact pk),Rat.add_neg_cancel]
 ·rw[e1' pk,FR];by_cases pi:i∈ps
  ·rw[e2' pi,if_neg λz=>pk (by rw[<- z];exact pi)]
  ·rw[e2 pi,nQ hk pk];by_cases e:k=i
   ·rw[if_pos e,if_pos e.symm]
   ·rw[if_neg e,if_neg λz=>e z.symm]
theorem NU (KF:mV mv pt a c) (D8:mv.length<=8) (wm:∀xs∈mv,xs.length=mv.length) (wp:∀xs∈pt,xs.length=mv.length) (RR:aR (kry mv pt mv.length) mv.length R ps):aR (pt++R.map (qD mv)) mv.length R ps:=by
 obtain ⟨R0,ps0,G⟩:=IZ KF D8 wm wp (mv.length+1);have R1:=G.late (d6 _) (ak _);have R2:=G.late (d6 _) (oJ mv.length);obtain ⟨rfl,rfl⟩:=RR.same R1;exact Dp rfl wm wp R1 R2
end
structure Ny (mv pt lk R:LR9) (M1 M2 V a1 a2 c q E:Nat):Prop where
 B:Bd mv pt M1 M2 V a1 a2 c
 q0:0 < q
 q1:q<=2^E
 rt:∀xs∈R,∀x∈xs,Tp q (2^E) x
 e1:4*E+a1+a2+c+3<=3900
 e3:2*E<=3000
 e2:mv.length*(E+4)<=8900
 lf:∃M3 V3:Nat,0 < M3/\M3<=2^400/\V3<=2^120/\GF M3 V3 lk
section
variable {mv pt lk R:LR9} {ps:List Nat} {M1 M2 V a1 a2 c q E N w n:Nat}
theorem OJ (B:Bd mv pt M1 M2 V a1 a2 c) (D:fY mv pt lk) (hn:mv.length<=N) (h1:a1*(N - 1)+a2+c*N<=w):0 < M1^(mv.length - 1)*M2/\M1^(mv.length - 1)*M2<=2^w/\∀xs∈kry mv pt mv.length,∀x∈xs,Tp (M1^(mv.length - 1)*M2) (2^w) x:=by
 have q1:a1*(mv.length - 1)<=a1*(N - 1):=bD _ (by lia);have q2:c*mv.length<=c*N:=bD _ hn;have p:=yk (t:=mv.length - 1) B.b1 B.b2;refine ⟨cw (uH B.m1) B.m2,ai p (ao (by decide) (by lia)),λxs hx x hx'=>Tp.of (B.kry D _ xs hx x hx') ?_⟩;exact Lu (ak _) p (by lia)
theorem BX (B:Bd mv pt M1 M2 V a1 a2 c) (D:fY mv pt lk) (hn:mv.length<=N) (N8:N<=8) (h1:a1*(N - 1)+a2+c*N<=w) (h2:N*(w+4)<=E) (h3:2*(E+w)<=3990) (h4:a1*(N+1)+a2+c*(N+2)<=3900):Nt mv pt mv.length/\∃S,Jz (kry mv pt mv.length) mv.length S:=by
 obtain ⟨p0,p1,t⟩:=OJ B D hn h1;have q1:a1*(mv.length+1)<=a1*(N+1):=bD _ (by lia);have q2:c*(mv.length+2)<=c*(N+2):=bD _ (by lia);have q3:min (kry mv pt mv.length).length mv.length*(w+4)<=N*(w+4):=az _ (by lia);exact ⟨⟨M1,M2,V,a1,a2,c,B,by lia⟩,_,JA.lws (w:=w) (a:=w) ⟨_,2^w,p0,p1,bw,ak _,t,by lia,by lia⟩ (fq rfl D.pw _)⟩
theorem MW (h:Rg mv pt w) (D:fY mv pt lk):Nt mv pt mv.length/\∃S,Jz (kry mv pt mv.length) mv.length S:=by
 rcases h with ⟨_,B⟩ | ⟨_,n5,B⟩ | ⟨_,n2,M1,M2,B⟩
 ·exact BX (N:=8) (w:=112) (E:=928) B D D.n8 (by decide) (by decide) (by decide) (by decide) (by decide)
 ·exact BX (N:=5) (w:=140) (E:=720) B D n5 (by decide) (by decide) (by decide) (by decide) (by decide)
 ·exact BX (N:=2) (w:=306) (E:=620) B D n2 (by decide) (by decide) (by decide) (by decide) (by decide)
theorem Hu (h:M<=W):∀x∈iN n a,Tp M W x:=λx hx=>by
 obtain ⟨i,_,rfl⟩:=ay.mp hx
 split
 ·exact ⟨M,by rw[kE,aW],by simpa using h⟩
 ·exact Tp.zero
theorem Ny.tb (z:Ny mv pt lk R M1 M2 V a1 a2 c q E):∀xs∈uK R ps n,∀x∈xs,Tp q (2^E) x:=λxs hx x hx'=>by
 rcases au.mp hx with hx | hx
 ·exact z.rt xs hx x hx'
 ·obtain ⟨a,_,rfl⟩:=ay.mp hx;exact Hu z.q1 x hx'
theorem Ny.tc (z:Ny mv pt lk R M1 M2 V a1 a2 c q E) (RR:aR rows n R ps):∀xs∈stC R ps n,∀x∈xs,Tp q (2^E) x:=λxs hx x hx'=>by
 rcases au.mp hx with hx | hx
 ·obtain ⟨a,_,rfl⟩:=ay.mp hx;exact Hu z.q1 x hx'
 ·obtain ⟨a,_,_,rfl⟩:=mI hx;exact Ir z.q0 z.q1 z.rt RR x hx'
theorem JL (h:∀xs∈rows,∀x∈xs,Tp M W x):∀xs∈bQ rows w,∀x∈xs,Tp M W x:=λys hy y hy'=>by
 obtain ⟨j,_,rfl⟩:=ay.mp hy;obtain ⟨xs,hx,rfl⟩:=ay.mp hy';rw[aa];cases e:xs[j]? with
 | none=>exact Tp.zero
 | some z=>exact h xs hx z (ax e)
end
inductive CU (K:FG9) (C:Addr) (vs:List V) (H:Hp) (Q:VK) (E9:XK):Prop
 | mk (x r:Addr) (w:Nat) (H0 H1:Hp) (mv pt lk rows inv:LR9):vs=[.ref x,.ref r]->oN K H0 H C x mv pt lk->fY mv pt lk->bB K H1 H r rows->zC rows mv.length->Cs (qi (bQ rows mv.length) (dg mv.length)) (mv.length+mv.length) w →
   (∀R ps,aR (qi (bQ rows mv.length) (dg mv.length)) (mv.length+mv.length) R ps->ps=List.range mv.length/\R.map (λxs=>xs.drop mv.length)=inv)->zC inv mv.length->F71 mv pt lk rows inv →
   (∀z H',aF H H'->oN K H H' C z (IS inv mv rows mv.length) (Nx inv pt) (lk.map λxs=>rows.map λr=>eL r xs)->Q (.ref z) H')->CU K C vs H Q E9
inductive EY (K:FG9) (vs:List V) (H:Hp) (Q:VK) (E9:XK):Prop
 | mk (p:Addr) (n:Nat) (H0:Hp) (R:LR9) (ps:List Nat):vs=[.ref p,.int n]->bB K H0 H p R->R.length<=100->n<=100->(∃rows,aR rows n R ps)->(∀r H',H r=none->aF H H'->bB K H H' r ((c4 ps n).map λa=>iN n ((a:Nat):Int))->Q (.ref r) H')->EY K vs H Q E9
inductive ES (K:FG9) (vs:List V) (H:Hp) (Q:VK) (E9:XK):Prop
 | mk (n a:Nat):vs=[.int n,.int a]->n<=100->(∀r H',H r=none->aF H H'->dC K H' r (iN n ((a:Nat):Int))->Q (.ref r) H')->ES K vs H Q E9
theorem vM {f:Nat->Rat}:∀k,bG (k+1) f=f 0+bG k λi=>f (i+1)
 | 0=>by show (0:Rat)+f 0=f 0+0;grind
 | k+1=>by
  show bG (k+1) f+f (k+1)=_
  rw[vM k];show _=f 0+(bG k (λi=>f (i+1))+f (k+1))
  grind
theorem CK:∀{n:Nat} {f:Nat->Rat},bG n (λc=>f (n - 1 - c))=bG n f
 | 0,_=>rfl
 | n+1,f=>by
  rw[vM (f:=λc=>f (n+1 - 1 - c))];show f (n+1 - 1 - 0)+bG n (λc=>f (n+1 - 1 - (c+1)))=bG n f+f n
  rw[aJ (g:=λc=>f (n - 1 - c)) λc hc=>by rw[show n+1 - 1 - (c+1)=n - 1 - c by lia],CK (n:=n) (f:=f)];show f n+_=_
  grind
section
variable {rows R R' U:LR9} {ps ps' pu:List Nat} {n:Nat}
theorem N9 (hw:∀xs∈rows,xs.length=n) (hc:c < n):bJ (rows.map List.reverse) i c=bJ rows i (n - 1 - c):=by
 rcases bP i rows.length with hi | hi
 ·have w:=hw _ (aO hi);rw[Dv (af hi),jf (af hi),aa,List.getElem?_reverse (by lia),aa,w]
 ·unfold bJ;rw[aa (l:=List.map _ rows),aT (by rw[ag];exact hi),aa (l:=rows),aT hi];exact List.getD_nil.trans List.getD_nil.symm
theorem A3 (RR:aR rows n R ps) (RN:aR (a7 R ps n) n U pu) (ht:t < pu.length) (hi:i < rows.length):(bG n λc=>bJ rows i c*bJ U t c)=0:=by
 obtain ⟨w,hw⟩:=RR.2.2.span i hi;have ht':t < U.length:=by rw[RN.1];exact ht
 have wu:=RN.2.1 _ (aO ht')
 have k:∀j,j < ps.length->(bG n λc=>bJ R j c*bJ U t c)=0:=λj hj=>by
  have hj':j < R.length:=by rw[RR.1];exact hj
  have wr:=RR.2.1 _ (aO hj');have d:=DU RR RN _ (aO ht') _ (aO hj');rw[fv (by lia),wu] at d;refine Eq.trans (aJ λc _=>?_) d;rw[jf (af hj'),jf (af ht'),cF]
 rw[aJ (g:=λc=>bG ps.length λj=>w j*(bJ R j c*bJ U t c)) λc _=>by
  rw[hw c,cF,<- cy];exact aJ λj _=>by grind,eG]
 exact cB λj hj=>by rw[cy,k j hj,cV]
theorem CF (hw:∀xs∈rows,xs.length=n) (RR:aR rows n R ps) (RN:aR (a7 R ps n) n U pu) (RV:aR (rows.map List.reverse) n R' ps') (ht:t < pu.length) (hj:j < ps'.length):(bG n λc=>bJ R' j (n - 1 - c)*bJ U t c)=0:=by
 obtain ⟨w,e⟩:=RV.2.2.back j hj;rw[ag] at e
 rw[aJ (g:=λc=>bG rows.length λi=>w i*(bJ rows i c*bJ U t c)) λc hc=>by
  rw[e (n - 1 - c),cF,<- cy];exact aJ λi _=>by rw[N9 hw (by lia),show n - 1 - (n - 1 - c)=c by lia];grind,eG]
 exact cB λi hi=>by rw[cy,A3 RR RN ht hi,cV]
theorem CG (hw:∀xs∈rows,xs.length=n) (RR:aR rows n R ps) (RN:aR (a7 R ps n) n U pu) (RV:aR (rows.map List.reverse) n R' ps') (ht:t < pu.length) (hj:j < ps'.length):pu.getD t 0≠n - 1 - ps'.getD j 0:=λe=>by
 have lo:=RN.2.2.low t ht;have lv:=RV.2.2.low j hj;have k:=CF hw RR RN RV ht hj;rw[c6 lo λc hc ne=>?_] at k
 ·have u1:=RN.2.2.unit t ht t ht;have u2:=RV.2.2.unit j hj j hj;rw[if_pos rfl] at u1 u2;rw[u1,e,show n - 1 - (n - 1 - ps'.getD j 0)=ps'.getD j 0 by lia,u2,uG] at k;exact absurd k (by decide)
 ·rcases bP c (pu.getD t 0) with h | h
  ·rw[RN.2.2.lead t ht c h,cV]
  ·rw[RV.2.2.lead j hj (n - 1 - c) (by lia),kY]
theorem K7 (hw:∀xs∈rows,xs.length=n) (RR:aR rows n R ps) (RN:aR (a7 R ps n) n U pu) (RV:aR (rows.map List.reverse) n R' ps') (ha:a < n) (hp:a∉ps'):∃s,s < pu.length/\pu.getD s 0=n - 1 - a:=by
 have dead:∀i,i < rows.length->(bG n λc=>bJ rows i c*(if c < n then (tI R' ps' n a).getD (n - 1 - c) 0 else 0))=0:=λi hi=>by
  have w:=hw _ (aO hi);have d:=BP RV ha hp (i:=i) (row:=rows[i].reverse) (by rw[aD,af hi];rfl) (by rw[p6];exact w);rw[fv (by rw[p6,w];exact jO.symm),p6,w] at d;rw[<- CK] at d;refine Eq.trans (aJ λc hc=>?_) d;rw[if_pos hc,jf (af hi),aa (l:=rows[i].reverse),List.getElem?_reverse (by lia),w,show n - 1 - (n - 1 - c)=c by lia,<- aa]
 have sp:=Af RR (x:=λc=>if c < n then (tI R' ps' n a).getD (n - 1 - c) 0 else 0) (λc hc=>if_neg (by lia)) λj hj=>by
  obtain ⟨w,e⟩:=RR.2.2.back j hj
  rw[aJ (g:=λc=>bG rows.length λi=>w i*(bJ rows i c*(if c < n then (tI R' ps' n a).getD (n - 1 - c) 0 else 0))) λc hc=>by
   rw[e c,cF,<- cy];exact aJ λi _=>by grind,eG]
  exact cB λi hi=>by rw[cy,dead i hi,cV]
 refine RN.2.2.lead_in (d5.trans (λt ht=>RN.2.2.span t ht) sp) (c:=n - 1 - a) ?_ λc hc=>?_
 ·show (if n - 1 - a < n then _ else _)≠(0:Rat)
  rw[if_pos (by lia),show n - 1 - (n - 1 - a)=a by lia,nQ ha hp,if_pos rfl];decide
 ·show (if c < n then _ else _)=(0:Rat)
  rw[if_pos (by lia)];by_cases q:n - 1 - c∈ps'
  ·obtain ⟨j,hj,e⟩:=aQ q;have ej:ps'.getD j 0=n - 1 - c:=by rw[aa,af hj,e];rfl
   rw[<- ej,Ff RV hj hp,RV.2.2.lead j hj a (by lia)];grind
  ·rw[nQ (by lia) q,if_neg (by lia)]
theorem NF (hw:∀xs∈rows,xs.length=n) (RR:aR rows n R ps) (RN:aR (a7 R ps n) n U pu) (RV:aR (rows.map List.reverse) n R' ps') (qW:q<=W) (tR:∀xs∈R',∀x∈xs,Tp q W x):∀xs∈U,∀x∈xs,Tp q W x:=Ce λt ht c=>by
 rw[RN.1] at ht;rcases bP c n with hc | hc
 ·by_cases hp:n - 1 - c∈ps'
  ·obtain ⟨j,hj,e⟩:=aQ hp;have ej:ps'.getD j 0=n - 1 - c:=by rw[aa,af hj,e];rfl
   have ap:=CG hw RR RN RV ht hj;rw[ej,show n - 1 - (n - 1 - c)=c by lia] at ap;have k:=CF hw RR RN RV ht hj;have u1:=RV.2.2.unit j hj j hj;rw[if_pos rfl,ej] at u1;have lo:=RN.2.2.low t ht;rw[aJ (g:=λd=>(if d=c then bJ U t c else 0)+(if d=pu.getD t 0 then bJ R' j (n - 1 - pu.getD t 0) else 0)) λd hd=>?_,kb,c6 hc λd _ ne=>if_neg ne,if_pos rfl,c6 lo λd _ ne=>if_neg ne,if_pos rfl] at k
   ·rw[show bJ U t c=-(bJ R' j (n - 1 - pu.getD t 0)) by grind];exact (K9 tR _ _).neg
   ·by_cases dc:d=c
    ·subst dc;rw[if_pos rfl,if_neg (λz=>ap z.symm),u1,kE,qh]
    ·rw[if_neg dc,FR];by_cases dp:n - 1 - d∈ps'
     ·obtain ⟨l,hl,el'⟩:=aQ dp;have el:ps'.getD l 0=n - 1 - d:=by rw[aa,af hl,el'];rfl
      have u2:=RV.2.2.unit j hj l hl;rw[if_neg (λz=>dc (by rw[<- z,ej] at el;lia)),el] at u2;have ap2:=CG hw RR RN RV ht hl;rw[u2,kY,if_neg (λz=>ap2 (by rw[el];lia))]
     ·obtain ⟨s,hs,es⟩:=K7 hw RR RN RV (a:=n - 1 - d) (by lia) dp;rw[show n - 1 - (n - 1 - d)=d by lia] at es;have u3:=RN.2.2.unit t ht s hs;rw[es] at u3;rw[u3];by_cases ts:t=s
      ·subst ts;rw[if_pos rfl,if_pos es.symm,es,uG]
      ·rw[if_neg ts,cV,if_neg (λz=>ts (By RN ht hs (by rw[es,z])))]
  ·obtain ⟨s,hs,es⟩:=K7 hw RR RN RV (a:=n - 1 - c) (by lia) hp;rw[show n - 1 - (n - 1 - c)=c by lia] at es;have u3:=RN.2.2.unit t ht s hs;rw[es] at u3;rw[u3]
   split
   ·exact ⟨q,by rw[kE,aW],by simpa using qW⟩
   ·exact Tp.zero
 ·rw[oo RN.2.1 hc];exact Tp.zero
end
def rK (U:LR9) (pu:List Nat) (n:Nat):LR9:=((c4 pu n).map λa=>iN n ((a:Nat):Int))++U
def Cw (U:LR9) (pu:List Nat) (n:Nat):LR9:=a7 U pu n++pu.map λa=>iN n ((a:Nat):Int)
section
variable {rows U:LR9} {pu:List Nat} {n:Nat}
theorem Ln (RN:aR rows n U pu) (ht:t < (c4 pu n).length):bJ (rK U pu n) t c=bJ (uK U pu n) (pu.length+t) c:=by
 unfold rK uK;rw[vH (by rw[ag];exact ht),<- RN.1,ox]
theorem HQ (RN:aR rows n U pu) (hj:j < pu.length):bJ (rK U pu n) ((c4 pu n).length+j) c=bJ (uK U pu n) j c:=by
 unfold rK uK;have:=ox (X:=(c4 pu n).map λa=>iN n ((a:Nat):Int)) (Y:=U) (i:=j);rw[ag] at this;rw[this,vH (by rw[RN.1];exact hj)]
theorem HP (ht:t < (c4 pu n).length):bJ (Cw U pu n) t c=bJ (stC U pu n) (pu.length+t) c:=by
 unfold Cw stC;have:=ox (X:=pu.map λa=>iN n ((a:Nat):Int)) (Y:=a7 U pu n) (i:=t);rw[ag] at this;rw[vH (by unfold a7;rw[ag];exact ht),this]
theorem Lm (hj:j < pu.length):bJ (Cw U pu n) ((c4 pu n).length+j) c=bJ (stC U pu n) j c:=by
 unfold Cw stC;have:=ox (X:=a7 U pu n) (Y:=pu.map λa=>iN n ((a:Nat):Int)) (i:=j);rw[show (a7 U pu n).length=(c4 pu n).length by unfold a7;rw[ag]] at this;rw[this,vH (by rw[ag];exact hj)]
theorem E6:xs∈rK U pu n↔xs∈uK U pu n:=by unfold rK uK;rw[au,au,Or.comm]
theorem E4:xs∈Cw U pu n↔xs∈stC U pu n:=by unfold Cw stC;rw[au,au,Or.comm]
theorem E5 (RN:aR rows n U pu):zC (rK U pu n) n:=by
 have h:=JS RN;refine ⟨?_,λxs hx=>h.2 xs (E6.mp hx)⟩;have:=h.1;unfold uK at this;unfold rK;rw[av] at this ⊢
 lia
theorem xr (RN:aR rows n U pu):zC (Cw U pu n) n:=by
 have h:=JR RN;refine ⟨?_,λxs hx=>h.2 xs (E4.mp hx)⟩;have:=h.1;unfold stC at this;unfold Cw;rw[av] at this ⊢
 lia
theorem N4 (RN:aR rows n U pu):GR (Cw U pu n) (bQ (rK U pu n) n) n:=λi hi k hk=>by
 have cn:=tP RN
 have key:∀x,x < n->∃y,y < n/\(∀c,bJ (Cw U pu n) x c=bJ (stC U pu n) y c)/\(∀c,bJ (rK U pu n) x c=bJ (uK U pu n) y c)/\y=if x < (c4 pu n).length then pu.length+x else x - (c4 pu n).length:=λx hx=>by
  rcases bP x (c4 pu n).length with h | h
  ·exact ⟨pu.length+x,by lia,λc=>HP h,λc=>Ln RN h,by rw[if_pos h]⟩
  ·obtain ⟨j,rfl⟩:=kF h;exact ⟨j,by lia,λc=>Lm (by lia),λc=>HQ RN (by lia),by rw[if_neg (by lia)];lia⟩
 obtain ⟨i',hi',ci,_,ei⟩:=key i hi;obtain ⟨k',hk',_,bk,ek⟩:=key k hk;have:=NW RN i' hi' k' hk';rw[aJ (g:=λj=>bJ (stC U pu n) i' j*bJ (bQ (uK U pu n) n) j k') λj hj=>by rw[jA hj,jA hj,ci,bk],this];by_cases e:i=k
 ·subst e;rw[if_pos (by rw[ei,ek]),if_pos rfl]
 ·rw[if_neg e,if_neg];rw[ei,ek]
  split <;> split <;> lia
theorem N2 (RN:aR rows n U pu):GR (bQ (rK U pu n) n) (Cw U pu n) n:=λi hi k hk=>by
 have cn:=tP RN;rw[<- NV RN i hi k hk];rw[aJ (g:=λj=>bJ (rK U pu n) j i*bJ (Cw U pu n) j k) λj _=>by rw[jA hi]];rw[aJ (f:=λj=>bJ (bQ (uK U pu n) n) i j*bJ (stC U pu n) j k) (g:=λj=>bJ (uK U pu n) j i*bJ (stC U pu n) j k) λj _=>by rw[jA hi]]
 have s1:bG n (λj=>bJ (rK U pu n) j i*bJ (Cw U pu n) j k)=bG (c4 pu n).length (λj=>bJ (rK U pu n) j i*bJ (Cw U pu n) j k)+bG pu.length λt=>bJ (rK U pu n) ((c4 pu n).length+t) i*bJ (Cw U pu n) ((c4 pu n).length+t) k:=by
  rw[<- p7,show (c4 pu n).length+pu.length=n by lia]
 have s2:bG n (λj=>bJ (uK U pu n) j i*bJ (stC U pu n) j k)=bG pu.length (λj=>bJ (uK U pu n) j i*bJ (stC U pu n) j k)+bG (c4 pu n).length λt=>bJ (uK U pu n) (pu.length+t) i*bJ (stC U pu n) (pu.length+t) k:=by
  rw[<- p7,show pu.length+(c4 pu n).length=n by lia]
 rw[s1,s2,aJ (k:=(c4 pu n).length) λt ht=>by rw[Ln RN ht,HP ht],aJ (k:=pu.length) λj hj=>by rw[HQ RN hj,Lm hj],Rat.add_comm]
theorem Mf (RN:aR rows n U pu) (h:aR (qi (bQ (rK U pu n) n) (dg n)) (n+n) R' ps'):ps'=List.range n/\R'.map (λxs=>xs.drop n)=Cw U pu n:=by
 have J:=IP (sN (E5 RN)) (xr RN) (N4 RN) (N2 RN);obtain ⟨rfl,rfl⟩:=h.same J;exact ⟨rfl,KH xG (xr RN).1⟩
end
section
variable {mv pt lk A R U R':LR9} {ps pu:List Nat} {M1 M2 V a1 a2 c q E N w n:Nat}
theorem Pj (z:Ny mv pt lk U M1 M2 V a1 a2 c q E) (n8:mv.length<=8) (hB:zC B mv.length) (hC:zC C mv.length) (tb:∀xs∈B,∀x∈xs,Tp q (2^E) x) (tc:∀xs∈C,∀x∈xs,Tp q (2^E) x):F71 mv pt lk B C/\Cs (qi (bQ B mv.length) (dg mv.length)) (mv.length+mv.length) E:=by
 have e1:=z.e1;have e3:=z.e3;have v1:=z.B.v1;have gb:GF q (2^E) B:=λxs hx x hx'=>(tb xs hx x hx').fr z.q0
 have gc:GF q (2^E) C:=λxs hx x hx'=>(tc xs hx x hx').fr z.q0
 have im:GF (M1*q) (2^(c+E)) (fK C mv mv.length):=xB (Dt gc z.B.gm) (by
  rw[<- cx,bC];exact az _ (ai (az _ (xf _ 4)) z.B.vc))
 have m0:0 < M1*q:=cw z.B.m1 z.q0;have m1:M1*q<=2^(a1+E):=Lu z.B.b1 z.q1 (ak _)
 have iM:GF (q*(M1*q)) (2^(3+E+(c+E))) (IS C mv B mv.length):=xB (Dt im (tO gb)) (by
  rw[cW,<- cx,bC 2 (3+E)];exact az _ (Lu (i:=3) (by lia) (ak _) (ak _)))
 have iP:GF (q*M2) (2^(c+E)) (Nx C pt):=xB (LG gc z.B.gp hC.2) (by
  rw[cv (2^E),<- cx,bC];exact az _ (ai (az _ (xf _ 4)) z.B.vc))
 obtain ⟨M3,V3,l0,l1,l2,lg⟩:=z.lf;have iL:GF (q*M3) (2^(3+(E+120))) (lk.map λxs=>B.map λr=>eL r xs):=xB (LG gb lg hB.2) (Lu (i:=3) (by lia) (Lu (ak _) l2 (ak _)) (ak _))
 refine ⟨⟨λxs hx ys hy=>⟨_,_,_,_,kS (tO z.B.gm) z.B.m1 z.B.b1 v1 ys hy,kS gc z.q0 z.q1 (ak _) xs hx,by lia⟩,
  λxs hx ys hy=>⟨_,_,_,_,kS (tO (tO gb)) z.q0 z.q1 (ak _) ys hy,kS im m0 m1 (ak _) xs hx,by lia⟩,
  λys hy xs hx=>⟨_,_,_,_,kS gc z.q0 z.q1 (ak _) xs hx,kS z.B.gp z.B.m2 z.B.b2 v1 ys hy,by lia⟩,
  λys hy xs hx=>⟨_,_,_,_,kS gb z.q0 z.q1 (ak _) xs hx,kS lg l0 l1 l2 ys hy,by lia⟩,
  λxs hx x hx'=>A8 (Ep iM (cw z.q0 m0) (Lu z.q1 m1 (ak _)) (ak _) (by lia) xs hx x hx'),
  λxs hx x hx'=>A8 (Ep iP (cw z.q0 z.B.m2) (Lu z.q1 z.B.b2 (ak _)) (ak _) (by lia) xs hx x hx'),
  λxs hx x hx'=>A8 (Ep iL (cw z.q0 l0) (Lu z.q1 l1 (ak _)) (ak _) (by lia) xs hx x hx')⟩,?_⟩
 exact MX (M:=q) (sN hB) (by lia) z.q0 z.q1 (by lia) (JL tb) z.e2
theorem A4 (B:Bd A lk M1 M2 V a1 a2 c) (D:fY A lk pk) (hn:A.length<=N) (N8:N<=8) (h1:a1*(N - 1)+a2+c*N<=w) (h2:N*(w+4)<=E) (h6:w<=4000) (h7:E<=8900) (RR:aR (kry A lk A.length) A.length R ps) (RN:aR (a7 R ps A.length) A.length U pu):∃q,0 < q/\q<=2^E/\∀xs∈U,∀x∈xs,Tp q (2^E) x:=by
 obtain ⟨p0,p1,t⟩:=OJ B D hn h1;have wk:=fq rfl D.pw A.length
 have wr:∀xs∈(kry A lk A.length).map List.reverse,xs.length=A.length:=λxs hx=>by
  obtain ⟨ys,hy,rfl⟩:=ay.mp hx;rw[p6];exact wk ys hy
 have q3:min ((kry A lk A.length).map List.reverse).length A.length*(w+4)<=N*(w+4):=az _ (by lia)
 have S:Cs ((kry A lk A.length).map List.reverse) A.length w:=⟨_,2^w,p0,ai p1 (ao (by decide) (by lia)),bw,ak _,λxs hx x hx'=>by
  obtain ⟨ys,hy,rfl⟩:=ay.mp hx;exact t ys hy x (List.mem_reverse.mp hx'),by lia,by lia,by lia⟩
 obtain ⟨R',ps',_,_,X⟩:=ve wr S;obtain ⟨_,q,q0,q1,tq⟩:=Lo wr S X.rr;have up:(2:Nat)^(min ((kry A lk A.length).map List.reverse).length A.length*(w+4))<=2^E:=ao (by decide) (by lia);exact ⟨q,q0,ai q1 up,NF wk RR RN X.rr (ai q1 up) λxs hx x hx'=>(tq xs hx x hx').mono up⟩
theorem L5 (h:Rg A lk w) (D:fY A lk pk) (RR:aR (kry A lk A.length) A.length R ps) (RN:aR (a7 R ps A.length) A.length U pu):∃q E,0 < q/\q<=2^E/\E<=928/\(9 < w->E<=620)/\∀xs∈U,∀x∈xs,Tp q (2^E) x:=by
 rcases h with ⟨w9,B⟩ | ⟨w9,n5,B⟩ | ⟨w9,n2,M1,M2,B⟩
 ·obtain ⟨q,a,b,t⟩:=A4 (N:=8) (w:=112) (E:=928) B D D.n8 (by decide) (by decide) (by decide) (by decide) (by decide) RR RN;exact ⟨q,_,a,b,by decide,by lia,t⟩
 ·obtain ⟨q,a,b,t⟩:=A4 (N:=5) (w:=140) (E:=720) B D n5 (by decide) (by decide) (by decide) (by decide) (by decide) RR RN;exact ⟨q,_,a,b,by decide,by lia,t⟩
 ·obtain ⟨q,a,b,t⟩:=A4 (N:=2) (w:=306) (E:=620) B D n2 (by decide) (by decide) (by decide) (by decide) (by decide) RR RN;exact ⟨q,_,a,b,by decide,λ_=>by decide,t⟩
theorem L4 (h:Rg mv pt w) (F:LQ mv pt lk) (n8:mv.length<=8) (q0:0 < q) (q1:q<=2^E) (E1:E<=928) (E2:9 < w->E<=620) (t:∀xs∈U,∀x∈xs,Tp q (2^E) x):∃M1 M2 V a1 a2 c,Ny mv pt lk U M1 M2 V a1 a2 c q E:=by
 have lf:∃M3 V3:Nat,0 < M3/\M3<=2^400/\V3<=2^120/\GF M3 V3 lk:=let ⟨M,W,a,b,c,_,_,d⟩:=F;⟨M,W,a,b,c,d⟩
 have e2:mv.length*(E+4)<=8900:=ai (aI n8 (show E+4<=932 by lia)) (by decide);rcases h with ⟨_,B⟩ | ⟨_,n5,B⟩ | ⟨w9,n2,M1,M2,B⟩
 ·exact ⟨_,_,_,_,_,_,B,q0,q1,t,by lia,by lia,e2,lf⟩
 ·exact ⟨_,_,_,_,_,_,B,q0,q1,t,by lia,by lia,e2,lf⟩
 ·have:=E2 (by lia);exact ⟨_,_,_,_,_,_,B,q0,q1,t,by lia,by lia,e2,lf⟩
end
section
variable {mv pt lk R U:LR9} {ps pu:List Nat} {n:Nat}
theorem N5 (wm:∀xs∈mv,xs.length=mv.length) (RR:aR (kry (bQ mv mv.length) lk mv.length) mv.length R ps) (B:aR (lk++R.map (qD (bQ mv mv.length))) mv.length R ps) (RN:aR (a7 R ps mv.length) mv.length U pu) (hj:j < pu.length):d5 pu.length (bJ U) λa=>if a < mv.length then bG mv.length λc=>bJ mv a c*bJ U j c else 0:=by
 refine d5.trans (λt ht=>RN.2.2.span t ht) (Af RR (λc hc=>if_neg (by lia)) λi hi=>?_);have hi':i < R.length:=by rw[RR.1];exact hi
 have k:=A3 B RN hj (i:=lk.length+i) (by rw[av,ag];lia);rw[ox] at k;have lt:(bQ mv mv.length).length=mv.length:=cW;have wt:∀xs∈bQ mv mv.length,xs.length=mv.length:=λxs hx=>mE xs hx
 refine Eq.trans ?_ k;rw[aJ (g:=λa=>bG mv.length λc=>bJ R i a*(bJ mv a c*bJ U j c)) λa ha=>by rw[if_pos ha,<- cy],eG];refine aJ λc hc=>?_
 rw[Im lt wt RR.2.1 hi',cF,<- cy];exact aJ λa _=>by rw[jA hc];grind
theorem JX (wm:∀xs∈mv,xs.length=mv.length) (RR:aR (kry (bQ mv mv.length) lk mv.length) mv.length R ps) (B:aR (lk++R.map (qD (bQ mv mv.length))) mv.length R ps) (RN:aR (a7 R ps mv.length) mv.length U pu):∀xs∈(IS (Cw U pu mv.length) mv (rK U pu mv.length) mv.length).take (c4 pu mv.length).length,xs.drop (c4 pu mv.length).length=List.replicate (mv.length - (c4 pu mv.length).length) 0:=λxs hx=>by
 have cn:=tP RN;have hm:zC mv mv.length:=⟨rfl,wm⟩;have hC:=xr RN;have wx:=LA xs (cH hx);obtain ⟨s,hs,rfl⟩:=aQ hx;rw[cN,qe hC] at hs;rw[List.getElem_take] at wx ⊢;have ht:s < (c4 pu mv.length).length:=by lia
 apply gB (by rw[List.length_drop,dj,wx]);intro j h1 h2;rw[dj] at h2;rw[List.getElem_drop,List.getElem_replicate];have e:=MZ (rows:=rK U pu mv.length) hC hm (i:=s) (k:=(c4 pu mv.length).length+j) (by lia) (by lia);rw[jf (af (by rw[qe hC];lia)),aa,af (by rw[wx];lia)] at e;refine Eq.trans e ?_;have hj:j < pu.length:=by lia
 rw[aJ (g:=λc=>bG mv.length λa=>(tI U pu mv.length ((c4 pu mv.length).getD s 0)).getD a 0*(bJ mv a c*bJ U j c)) λc _=>by
  rw[HQ RN hj,EN RN hj,cF,<- cy];exact aJ λa _=>by rw[HP ht,EL ht];grind]
 rw[eG];obtain ⟨w,hw⟩:=N5 wm RR B RN hj
 rw[aJ (g:=λa=>bG pu.length λt=>w t*((tI U pu mv.length ((c4 pu mv.length).getD s 0)).getD a 0*bJ U t a)) λa ha=>by
  have:=hw a
  dsimp only at this
  rw[if_pos ha] at this;rw[cy,this,<- cy];exact aJ λt _=>by grind,eG]
 exact cB λt ht'=>by rw[cy,Fg RN ht ht',cV]
theorem JY (wl:∀xs∈lk,xs.length=mv.length) (B:aR (lk++R.map (qD (bQ mv mv.length))) mv.length R ps) (RN:aR (a7 R ps mv.length) mv.length U pu):∀xs∈lk.map (λxs=>(rK U pu mv.length).map λr=>eL r xs),xs.drop (c4 pu mv.length).length=List.replicate (mv.length - (c4 pu mv.length).length) 0:=λxs hx=>by
 have cn:=tP RN;obtain ⟨ys,hy,rfl⟩:=ay.mp hx;unfold rK;rw[bK,Jw (by simp),lC (by simp),cK];refine List.eq_replicate_iff.mpr ⟨by rw[ag,RN.1];lia,λx hx=>?_⟩;obtain ⟨z,hz,rfl⟩:=ay.mp hx;obtain ⟨t,ht,rfl⟩:=aQ hz;obtain ⟨i,hi,rfl⟩:=aQ hy;have wz:=RN.2.1 _ hz;have k:=A3 B RN (t:=t) (i:=i) (by rw[<- RN.1];exact ht) (by rw[av];lia);rw[vH hi] at k;rw[fv (by rw[wz,wl _ hy]),wz];refine Eq.trans (aJ λc _=>?_) k;rw[jf (af hi),jf (af ht),cF]
end
def JV (K:FG9):Sp:=λvs H Q _=>∃b:Addr,vs=[.ref b]/\hZ H b /\
 ∀t r (w:Nat) mv pt lk H',H' t=some (.tup [.ref r,.int w])->fD K H H' r mv pt lk->fY mv pt lk->LQ mv pt lk->Rg mv pt w->Rg (bQ mv mv.length) lk w->1<=w->w<=1000->hZ H' b->cU b H H'->Q (.ref t) H'
inductive EU (K:FG9) (C:Addr) (vs:List V) (H:Hp) (Q:VK) (E9:XK):Prop
 | mk (x:Addr) (e:Nat) (H0:Hp) (mv pt lk:LR9):vs=[.ref x]->oN K H0 H C x mv pt lk->fY mv pt lk->LQ mv pt lk->OK (bQ mv mv.length) lk e->(∀t l R ps U pu H',aR (kry (bQ mv mv.length) lk mv.length) mv.length R ps->aR (a7 R ps mv.length) mv.length U pu->H l=none->aF H H'->H' t=some (.tup [.ref l,.int (c4 pu mv.length).length])->bB K H H' l (rK U pu mv.length)->Q (.ref t) H')->EU K C vs H Q E9
inductive EV (K:FG9) (vs:List V) (H:Hp) (Q:VK) (E9:XK):Prop
 | mk (r a:Addr) (H0:Hp) (mv pt lk:LR9) (z:List Rat):vs=[.ref r,.ref a]->fD K H0 H r mv pt lk->fY mv pt lk->dC K H a z->z.length=mv.length->(∀ys∈bQ mv mv.length,sI ys z)->(∀q H',H q=none->aF H H'->dC K H' q ((bQ mv mv.length).map λys=>eL ys z)->Q (.ref q) H')->EV K vs H Q E9
inductive ET (K:FG9) (vs:List V) (H:Hp) (Q:VK) (E9:XK):Prop
 | mk (r:Addr) (T:Nat) (H0:Hp) (mv pt lk:LR9):vs=[.ref r,.int T]->T<=20->fD K H0 H r mv pt lk->fY mv pt lk->Nt (bQ mv mv.length) lk T->(∀q H',H q=none->aF H H'->bB K H H' q (kry (bQ mv mv.length) lk T)->Q (.ref q) H')->ET K vs H Q E9
inductive CW (K:FG9) (C:Addr) (vs:List V) (H:Hp) (Q:VK) (E9:XK):Prop
 | mk (x:Addr) (m:Nat) (H0:Hp) (mv pt lk:LR9):vs=[.ref x,.int m]->oN K H0 H C x mv pt lk->fY mv pt lk->m<=mv.length->(∀xs∈mv.take m,xs.drop m=List.replicate (mv.length - m) 0)->(∀xs∈lk,xs.drop m=List.replicate (mv.length - m) 0)->(∀H',aF H H'->Q (.bl true) H')->CW K C vs H Q E9
theorem HI:∀{l1 l2:List Nat},l1.Pairwise (· < ·)->l2.Pairwise (· < ·)->(∀x,x∈l1↔x∈l2)->l1=l2
 | [],[],_,_,_=>rfl
 | [],b :: u,_,_,h=>absurd ((h b).mpr (cp ..)) (by simp)
 | a :: t,[],_,_,h=>absurd ((h a).mp (cp ..)) (by simp)
 | a :: t,b :: u,h1,h2,h=>by
  rw[List.pairwise_cons] at h1 h2
  have ab:a=b:=by
   rcases aE.mp ((h a).mp (cp ..)) with e | e
   ·exact e
   ·rcases aE.mp ((h b).mpr (cp ..)) with e' | e'
    ·exact e'.symm
    ·have:=h2.1 a e;have:=h1.1 b e'
     lia
  subst ab;rw[HI h1.2 h2.2 λx=>⟨λhx=>?_,λhx=>?_⟩]
  ·rcases aE.mp ((h x).mp (bN _ hx)) with e | e
   ·have:=h1.1 x hx;lia
   ·exact e
  ·rcases aE.mp ((h x).mpr (bN _ hx)) with e | e
   ·have:=h2.1 x hx;lia
   ·exact e
theorem OG (RR:aR rows n R ps):c4 (c4 ps n) n=ps:=by
 refine HI (List.Pairwise.filter _ List.pairwise_lt_range) (sJ.mpr λi j hi hj h=>?_) λx=>?_
 ·have:=RR.2.2.inc i j h hj;rwa [aa,aa,af hi,af hj] at this
 ·rw[js,js];constructor
  ·rintro ⟨h1,h2⟩;exact Classical.byContradiction λz=>h2 ⟨h1,z⟩
  ·intro h;obtain ⟨j,hj,e⟩:=aQ h;have:=RR.2.2.low j hj;rw[aa,af hj] at this;exact ⟨by rw[<- e];exact this,λz=>z.2 h⟩
def Pt (K:FG9) (H:Hp) (fl:Addr) (H':Hp) (qs:List Rat) (x:V):Prop:=∃q,x=V.ref q/\H q=none/\q≠fl/\dC K H' q qs
inductive ER (K:FG9) (vs:List V) (H:Hp) (Q:VK) (E9:XK):Prop
 | mk (r:Addr) (S:Nat) (H0:Hp) (mv pt lk:LR9):vs=[.ref r]->fD K H0 H r mv pt lk->fY mv pt lk->Nt (bQ mv mv.length) lk mv.length->Jz (kry (bQ mv mv.length) lk mv.length) mv.length S->(∀R ps,aR (kry (bQ mv mv.length) lk mv.length) mv.length R ps->∃S',Jz (a7 R ps mv.length) mv.length S')->(∀q R ps U pu H',aR (kry (bQ mv mv.length) lk mv.length) mv.length R ps->aR (a7 R ps mv.length) mv.length U pu->H q=none->aF H H'->bB K H H' q U->Q (.ref q) H')->ER K vs H Q E9
end L2
open L2
local macro_rules | `(tactic| walk_at "hl") => `(tactic| first | (show _ ≤ sizeLine; with_unfolding_all decide) | (with_unfolding_all exact (by decide)))
local macro_rules | `(tactic| walk_at "sq") => `(tactic| first | with_reducible assumption | with_reducible exact kD.of (by assumption) | with_reducible exact bO.of (by assumption) | with_reducible exact kD.of aH | with_reducible exact bO.of aH | assumption)
local macro_rules | `(tactic| walk_at "sc") => `(tactic| first | (with_reducible show (0 : Int) < _; decide) | with_reducible exact KS (by decide) (by decide) | with_reducible exact FI (by decide) (by decide) | with_reducible exact cpow_of (by decide) (by decide) (by decide))
local macro_rules | `(tactic| walk_at "rd") => `(tactic| first
  | with_reducible refine Ml ?_
  | with_reducible refine Kc ?_
  | with_reducible refine Mz ?_
  | with_reducible refine Ie ?_
  | ((with_reducible refine' Mi ?hx1 ?_); (case hx1 => with_unfolding_all rfl))
  | with_reducible refine O8 ?_
  | with_reducible refine Oh ?_
  | with_reducible refine Ol ?_
  | with_reducible refine Od ?_
  | with_reducible refine O9 ?_
  | with_reducible refine My ?_
  | with_reducible refine Mq ?_
  | with_reducible refine rd_eqS ?_
  | with_reducible refine rd_neS ?_
  | with_reducible refine rd_eqB ?_
  | with_reducible refine rd_neB ?_
  | with_reducible refine Kf ?_
  | with_reducible refine Ea ?_
  | with_reducible refine Mx ?_
  | with_reducible refine J9 ?_
  | with_reducible refine Kd ?_
  | with_reducible refine Ke ?_
  | with_reducible refine Ic ?_
  | with_reducible refine J8 ?_
  | with_reducible refine Oe ?_
  | with_reducible refine Mm ?_
  | with_reducible refine rd_retN ?_
  | with_reducible refine Mu ?_
  | with_reducible refine MB ?_
  | with_reducible refine Og ?_
  | with_reducible refine Mo ?_
  | with_reducible refine Kq ?_
  | with_reducible refine rd_orV ?_
  | with_reducible refine Kb ?_
  | with_reducible refine Mv ?_
  | with_reducible refine Mh ?_
  | with_reducible refine IM ?_
  | with_reducible refine Oy ?_
  | with_reducible refine Oz ?_
  | with_reducible refine OA ?_
  | with_reducible refine Lq ?_
  | with_reducible refine Mp ?_
  | with_reducible refine Km ?_
  | with_reducible refine Mj ?_
  | with_reducible refine Ms ?_
  | with_reducible refine Ko ?_
  | with_reducible refine Oi ?_
  | with_reducible refine Kl ?_
  | with_reducible refine Mn ?_
  | with_reducible refine Kp ?_
  | ((with_reducible refine' rd_aug ?hx1 ?_); (case hx1 => with_unfolding_all rfl))
  | with_reducible refine Mt ?_
  | with_reducible refine Ki ?_
  | with_reducible refine Ig ?_
  | with_reducible refine Kj ?_
  | with_reducible refine Of ?_
  | with_reducible refine F9 ?_
  | with_reducible refine Ka ?_
  | with_reducible refine Mw ?_
  | with_reducible refine Ib ?_
  | with_reducible refine Kg ?_
  | with_reducible refine Ia ?_
  | with_reducible refine HZ ?_
  | ((with_reducible refine' Kn ?hx1 ?_); (case hx1 => with_unfolding_all rfl))
  | with_reducible refine J7 ?_
  | with_reducible refine Oj ?_
  | with_reducible refine rd_bm0 ?_
  | with_reducible refine rd_brk ?_
  | ((with_reducible refine' Kh ?hx1 ?hx2 ?_); (case hx1 => walk_at "sq"); (case hx2 => with_unfolding_all rfl))
  | with_reducible refine rd_cont ?_
  | ((with_reducible refine' fe ?hx1 ?_); (case hx1 => walk_at "sc"))
  | ((with_reducible refine' Eb ?hx1 ?hx2 ?_); (case hx1 => walk_at "sq"); (case hx2 => with_unfolding_all rfl))
  | ((with_reducible refine' cm ?hx1 ?hx2 ?_); (case hx1 => walk_at "sq"); (case hx2 => with_unfolding_all rfl))
  | ((with_reducible refine' Kk ?hx1 ?hx2 ?_); (case hx1 => walk_at "sq"); (case hx2 => with_unfolding_all rfl))
  | ((with_reducible refine' eo ?hx1 ?hx2 ?hx3 ?_); (case hx1 => with_reducible first | assumption | exact aH); (case hx2 => with_unfolding_all rfl); (case hx3 => with_unfolding_all rfl))
  | with_reducible refine ⟨_, rfl, ?_⟩
  | with_reducible refine ⟨_, _, rfl, ?_⟩)
local macro_rules | `(tactic| walk_at "w") => `(tactic| repeat walk_at "rd")
local macro_rules | `(tactic| walk_at "d") => `(tactic| exact ⟨rfl,rfl,rfl,by decide +kernel,rfl,by decide +kernel,by decide +kernel⟩)
namespace Lw
open PySem PySem.Spec PyProof.Rows L2 Nm
local macro_rules | `(tactic| exists $e) => `(tactic| (walk_at "w";refine $e))
set_option maxHeartbeats 4000000
def top (i:Nat):Stmt:=PySem.Challenge.pw_helmsum_k73_seen_first.main.body.getD i (.Pass ⟨0,0,0,0⟩)
abbrev rW:Stmt:=top 58
abbrev o8:Stmt:=top 59
abbrev jU:Stmt:=top 75
abbrev pC:Stmt:=top 76
abbrev rT:Stmt:=top 60
abbrev rR:Stmt:=top 61
abbrev ph:Stmt:=top 68
abbrev pe:Stmt:=top 63
abbrev vd:Stmt:=top 70
abbrev nD:Stmt:=top 72
abbrev iT:Stmt:=top 77
abbrev lT:Stmt:=top 65
abbrev rS:Stmt:=top 66
abbrev pA:Stmt:=top 71
abbrev nC:Stmt:=top 73
abbrev lS:Stmt:=top 78
abbrev oZ:Stmt:=top 48
abbrev rO:Stmt:=top 10
abbrev iS:Stmt:=top 11
abbrev o6:Stmt:=top 13
abbrev yd:Stmt:=top 17
abbrev lO:Stmt:=top 49
abbrev dH:Stmt:=inClass (top 50) 0
abbrev lW:Stmt:=top 74
abbrev pB:Stmt:=top 79
abbrev o9:Stmt:=top 64
abbrev pF:Stmt:=top 62
abbrev nE:Stmt:=top 69
abbrev pG:Stmt:=top 83
abbrev rV:Stmt:=top 67
abbrev pz:Stmt:=top 84
abbrev nB:Stmt:=top 85
abbrev pH:Stmt:=top 87
abbrev o7:Stmt:=top 86
abbrev lQ:Stmt:=top 88
abbrev o5:Stmt:=top 19
abbrev ig:Stmt:=top 12
abbrev jJ:Stmt:=top 18
abbrev nk:Stmt:=top 31
abbrev va:Stmt:=top 33
abbrev nA:Stmt:=top 32
abbrev Bt:Stmt:=top 34
abbrev yc:Stmt:=top 14
abbrev uW:Stmt:=top 35
abbrev uV:Stmt:=top 20
abbrev u0:Stmt:=top 23
abbrev m9:Stmt:=top 41
abbrev lG:Stmt:=top 42
abbrev m8:Stmt:=top 43
abbrev lH:Stmt:=top 24
abbrev eH:Stmt:=inClass (top 50) 3
abbrev rN:Stmt:=top 21
abbrev jI:Stmt:=top 28
abbrev uY:Stmt:=top 29
abbrev Bv:Stmt:=top 15
abbrev uX:Stmt:=top 37
abbrev lI:Stmt:=top 30
abbrev Bu:Stmt:=top 38
abbrev lF:Stmt:=top 52
abbrev nh:Stmt:=top 55
abbrev m7:Stmt:=top 56
abbrev iU:Stmt:=top 80
abbrev lV:Stmt:=top 81
abbrev kg:Stmt:=top 82
abbrev lX:Stmt:=top 89
abbrev o3:Stmt:=top 26
abbrev uZ:Stmt:=top 39
abbrev ng:Stmt:=top 25
abbrev rQ:Stmt:=top 54
abbrev HS:Stmt:=top 90
set_option genInjectivity false in
set_option genSizeOf false in
structure Ads where
 zo:Addr
 yZ:FuncData
 wH:Addr
 vZ:FuncData
 uA:Addr
 ue:FuncData
 wV:Addr
 wd:FuncData
 zj:Addr
 yX:FuncData
 zh:Addr
 yV:FuncData
 wM:Addr
 v8:FuncData
 wL:Addr
 v7:FuncData
 AU:Addr
 Ay:FuncData
 uD:Addr
 uh:FuncData
 mS:Addr
 mN:FuncData
 rg:Addr
 qP:FuncData
 zi:Addr
 yW:FuncData
 wO:Addr
 wa:FuncData
 uC:Addr
 ug:FuncData
 rf:Addr
 qO:FuncData
 wq:Addr
 vU:FuncData
 ze:Addr
 yT:FuncData
 mR:Addr
 mM:FuncData
 wF:Addr
 vX:FuncData
 DI:Addr
 Dy:FuncData
 qY:Addr
 qM:FuncData
 iH:Addr
 iG:FuncData
 rj:Addr
 qR:FuncData
 wQ:Addr
 wb:FuncData
 wI:Addr
 v5:FuncData
 wW:Addr
 we:FuncData
 uE:Addr
 ui:FuncData
 wX:Addr
 wg:FuncData
 zm:Addr
 yY:FuncData
 wN:Addr
 v9:FuncData
 uB:Addr
 uf:FuncData
 wY:Addr
 wj:FuncData
 wG:Addr
 vY:FuncData
 qZ:Addr
 qN:FuncData
 wD:Addr
 vW:FuncData
 kU:Addr
 kT:FuncData
 oF:Addr
 oB:FuncData
 ux:Addr
 t9:FuncData
 AS:Addr
 Ax:FuncData
 uy:Addr
 uc:FuncData
 FL:Addr
 FF:FuncData
 DH:Addr
 Dx:FuncData
 AM:Addr
 Ar:FuncData
 AL:Addr
 Aq:FuncData
 AR:Addr
 Aw:FuncData
 uu:Addr
 tY:FuncData
 qU:Addr
 qJ:FuncData
 uq:Addr
 tX:FuncData
 qV:Addr
 qK:FuncData
 jR:Addr
 jQ:FuncData
 zd:Addr
 yS:FuncData
 oE:Addr
 oA:FuncData
 AO:Addr
 Au:FuncData
 FO:Addr
 FH:FuncData
 AN:Addr
 As:FuncData
 qX:Addr
 qL:FuncData
 FN:Addr
 FG:FuncData
 qT:Addr
 qI:FuncData
 uw:Addr
 t7:FuncData
 uo:Addr
 tW:FuncData
 mT:Addr
 mO:FuncData
 rh:Addr
 qQ:FuncData
 pY:Addr
 pW:FuncData
 rz:Addr
 qS:FuncData
 wC:Addr
 vV:FuncData
 AQ:Addr
 Av:FuncData
 uv:Addr
 tZ:FuncData
 zg:Addr
 yU:FuncData
 LP:Addr
 LO:FuncData
 a_NOUGHT:Addr
 a_ONE:Addr
 t_MOST_STATES:Tok
 t_MOST_PUTS:Tok
 t_MOST_LOOKS:Tok
 a_System:Addr
structure Txt (K:W.Frag) (mg:Str->Option Value) (Z:Ads):Prop where
 pS:Df K mg "_law_bag" rW ["_law_script"] Z.zo Z.yZ
 bo:Df K mg "_law_take" o8 ["_law_bag_here","_law_many"] Z.wH Z.vZ
 mo:Df K mg "_law_sizes" jU ["_law_bag_here"] Z.uA Z.ue
 iC:Df K mg "_law_line" pC ["_law_bag_here","_law_n"] Z.wV Z.wd
 dX:Df K mg "_law_low" rT ["_law_top","_law_bottom"] Z.zj Z.yX
 gW:Df K mg "_law_sum" rR ["_law_one","_law_other"] Z.zh Z.yV
 nX:Df K mg "_law_plus" ph ["_law_one","_law_other"] Z.wM Z.v8
 fW:Df K mg "_law_prod" pe ["_law_one","_law_other"] Z.wL Z.v7
 jb:Df K mg "_law_by" vd ["_law_by_here","_law_row_here"] Z.AU Z.Ay
 jo:Df K mg "_law_mixed" nD ["_law_bag_here","_law_move_here","_law_put","_law_look"] Z.uD Z.uh
 iB:Df K mg "_law_two_lines" iT ["_law_bag_here"] Z.mS Z.mN
 kx:Df K mg "_law_number" lT ["_law_bag_here","_law_wide"] Z.rg Z.qP
 jC:Df K mg "_law_row" rS ["_law_bag_here","_law_many","_law_wide"] Z.zi Z.yW
 nZ:Df K mg "_law_move" pA ["_law_bag_here","_law_n","_law_way","_law_first","_law_wide"] Z.wO Z.wa
 mC:Df K mg "_law_parts" nC ["_law_bag_here","_law_n","_law_ins","_law_outs","_law_wide"] Z.uC Z.ug
 kv:Df K mg "_law_system" lS ["_law_bag_here"] Z.rf Z.qO
 ir:Df K mg "want_list" oZ ["thing","at","most"] Z.wq Z.vU
 kO:Df K mg "is_whole" rO ["thing"] Z.ze Z.yT
 eI:Df K mg "common_divisor" iS ["one","other"] Z.mR Z.mM
 nV:Df K mg "is_number" o6 ["thing"] Z.wF Z.vX
 vA:Df K mg "is_row" yd ["thing","many"] Z.DI Z.Dy
 fQ:Df K mg "copied_rows" lO ["things","wide"] Z.qY Z.qM
 fG:Binds K Z.iG ["self","move","put","look"] []
 kX:JB K "__init__" "System.__init__" dH Z.iH Z.iG
 fR:Df K mg "_law_copied" lW ["_law_grid"] Z.rj Z.qR
 oa:Df K mg "_law_made" pB ["_law_parts_here"] Z.wQ Z.wb
 nW:Df K mg "_law_quot" o9 ["_law_one","_law_other"] Z.wI Z.v5
 og:Df K mg "_law_less" pF ["_law_one","_law_other"] Z.wW Z.we
 jq:Df K mg "_law_minus" nE ["_law_one","_law_other"] Z.uE Z.ui
 jZ:Df K mg "_law_lean" pG ["_law_rows","_law_wide"] Z.wX Z.wg
 pR:Df K mg "_law_dot" rV ["_law_one","_law_other"] Z.zm Z.yY
 nY:Df K mg "_law_over" pz ["_law_parts_here","_law_row_here"] Z.wN Z.v9
 mB:Df K mg "_law_shown" nB ["_law_parts_here","_law_steps"] Z.uB Z.uf
 iE:Df K mg "_law_free" pH ["_law_rows","_law_n"] Z.wY Z.wj
 jY:Df K mg "_law_unit" o7 ["_law_n","_law_at"] Z.wG Z.vY
 ku:Df K mg "_law_unseen" lQ ["_law_parts_here"] Z.qZ Z.qN
 iu:Df K mg "tops_over" o5 ["row","bottom"] Z.wD Z.vW
 gO:Df K mg "common_multiple" ig ["wholes"] Z.kU Z.kT
 eZ:Df K mg "common_bottom" jJ ["row"] Z.oF Z.oB
 mh:Df K mg "first_with" nk ["lines","begin","place"] Z.ux Z.t9
 sD:Df K mg "cleared" va ["lines","at","place","before"] Z.AS Z.Ax
 mi:Df K mg "brought_up" nA ["lines","at","to"] Z.uy Z.uc
 yE:Df K mg "swept" Bt ["rows","wide"] Z.FL Z.FF
 mK:Df K mg "lowest" yc ["top","bottom"] Z.DH Z.Dx
 i5:Df K mg "reduced" uW ["rows","wide"] Z.AM Z.Ar
 r8:Df K mg "row_dot" uV ["one","other"] Z.AL Z.Aq
 ja:Df K mg "grid_on" u0 ["grid","row"] Z.AR Z.Aw
 md:Df K mg "moved_rows" m9 ["system","rows"] Z.uu Z.tY
 kq:Df K mg "reach_grown" lG ["system","steps"] Z.qU Z.qJ
 l9:Df K mg "reach_rows" m8 ["system","steps"] Z.uq Z.tX
 fP:Df K mg "grid_turned" lH ["grid","wide"] Z.qV Z.qK
 mL:Nk K Z.a_System "turned" Z.jR
 oC:Binds K Z.jQ ["self"] []
 oH:JB K "turned" "System.turned" eH Z.jR Z.jQ
 jB:Df K mg "unit_row" rN ["many","at"] Z.zd Z.yS
 i8:Df K mg "leading_place" jI ["row"] Z.oE Z.oA
 ks:Df K mg "leading" uY ["rows"] Z.AO Z.Au
 yG:Df K mg "minus" Bv ["one","other"] Z.FO Z.FH
 sv:Df K mg "null_at" uX ["rows","wide","at"] Z.AN Z.As
 iw:Df K mg "free_places" lI ["rows","wide"] Z.qX Z.qL
 yF:Df K mg "nulls" Bu ["rows","wide"] Z.FN Z.FG
 ko:Df K mg "unseen_rows" lF ["system","steps"] Z.qT Z.qI
 me:Df K mg "free_units" nh ["rows","wide"] Z.uw Z.t7
 jk:Df K mg "seen_first" m7 ["system"] Z.uo Z.tW
 iD:Df K mg "_law_is_number" iU ["_law_thing"] Z.mT Z.mO
 ky:Df K mg "_law_is_row" lV ["_law_thing","_law_many"] Z.rh Z.qQ
 jP:Df K mg "_law_is_grid" kg ["_law_thing","_law_many","_law_wide"] Z.pY Z.pW
 kz:Df K mg "_law_blocks" lX ["_law_other","_law_many"] Z.rz Z.qS
 nU:Df K mg "unit_grid" o3 ["many"] Z.wC Z.vV
 sC:Df K mg "inverse" uZ ["grid"] Z.AQ Z.Av
 jm:Df K mg "grid_times" ng ["one","other","wide"] Z.uv Z.tZ
 pQ:Df K mg "in_basis" rQ ["system","rows"] Z.zg Z.yU
 LV:JB K "law" "law" HS Z.LP Z.LO
 abs:mg "abs"=none
 len:mg "len"=none
 min:mg "min"=none
 int:mg "int"=none
 range:mg "range"=none
 isinstance:mg "isinstance"=none
 list:mg "list"=none
 bool:mg "bool"=none
 tuple:mg "tuple"=none
 all:mg "all"=none
 enumerate:mg "enumerate"=none
 zip:mg "zip"=none
 sum:mg "sum"=none
 mg_NOUGHT:mg "NOUGHT"=some (.ref Z.a_NOUGHT)
 sq_NOUGHT:∀H,kD K H Z.a_NOUGHT [.int 0,.int 1]
 mg_ONE:mg "ONE"=some (.ref Z.a_ONE)
 sq_ONE:∀H,kD K H Z.a_ONE [.int 1,.int 1]
 mg_MOST_STATES:mg "MOST_STATES"=some (.int 8 Z.t_MOST_STATES)
 mg_MOST_PUTS:mg "MOST_PUTS"=some (.int 4 Z.t_MOST_PUTS)
 mg_MOST_LOOKS:mg "MOST_LOOKS"=some (.int 4 Z.t_MOST_LOOKS)
 mg_System:mg "System"=some (.ref Z.a_System)
 cl_System:GX K Z.a_System
 na_move:iI K Z.a_System "move"
 na_states:iI K Z.a_System "states"
 na_put:iI K Z.a_System "put"
 na_ins:iI K Z.a_System "ins"
 na_look:iI K Z.a_System "look"
 na_outs:iI K Z.a_System "outs"
 mk_System:Mk K Z.a_System Z.iH
section
variable {P:Program} {w:World} {K:W.Frag} {mg:Str->Option Value} {base:Heap} {Z:Ads}
theorem C3:aX ["_law_script"] ["_law_script"] (aK rW):=by walk_at "d"
theorem Dg (T:Txt K mg Z):cE P w K mg base fw 1 Z.zo Z.yZ ["_law_script"] (HN K):=by
 refine T.pS.F.ok C3 (λvs H Q E h=>?_) (λcdv A outer s H vs Q E hr h=>?_)
 ·obtain ⟨a,ns,rfl,_⟩:=h;rfl
 ·obtain ⟨a,ns,rfl,hS,hlen,k⟩:=h;refine ⟨_,(aA (aY (eF (ae ar (ae ar (ae ar (ae (bW ["_law_cell"] [] [] (ck (pK Bg (pv 0) tm (tj ar))) (λ_=>(aM (i:=0) (show ND9 ["_law_cell"] by decide +kernel))) (λ_=>bZ) (λ_=>(bL y9 (by rfl) T.abs PyProof.Rows.boot_abs (ae (pv 0) aj)))) aj))))))),?_⟩;refine aP (σ:=[some (.ref a)]) rfl ?_;exists ⟨a,_,rfl,hS,λl hl=>?_⟩;have hcl:(qj (ns.map V.int) none (some 63)).length<=63:=ai (wo _ _ _) (by simpa using hlen);refine ⟨l,rfl,⟨_,bO.of aH⟩,?_⟩;refine dd (K:=K) (a:=l) (xs:=qj (ns.map V.int) none (some 63)) (λi ys H'=>H'=upd H l (.lst (qj (ns.map V.int) none (some 63)))/\∃cs:List Int,ys=cs.map V.int/\∀x∈cs,0<=x) (ai hcl (by decide)) ⟨rfl,[],rfl,λ_ z=>nomatch z⟩ (λi ys H' _ ⟨e,_⟩=>by subst e;exact bO.of aH) ?_ ?_
  ·rintro i x ys H' hx hi ⟨rfl,cs,rfl,hcs⟩
   obtain ⟨z,rfl⟩:∃z,x=V.int z:=by
    have hm:x∈ns.map V.int:=List.mem_of_mem_drop (cH (ax hx));obtain ⟨z,_,e⟩:=ay.mp hm;exact ⟨z,e.symm⟩
   exists ⟨rfl,cs++[if z < 0 then -z else z],by simp,λx hx=>?_⟩;rcases au.mp hx with hx | hx
   ·exact hcs x hx
   ·have e:x=if z < 0 then -z else z:=by simpa using hx
    subst e
    split <;> lia
  ·rintro ys H' hy ⟨rfl,cs,rfl,hcs⟩ p hp;exists ⟨by show 4<=sizeLine;decide,λb hb=>?_⟩;have n1:b≠p:=λz=>by rw[z,aH] at hb;cases hb
   have hb1:(upd H l (.lst (qj (ns.map V.int) none (some 63)))) b=none:=by rw[br n1] at hb;exact hb
   have s1:aF H (upd H l (.lst (qj (ns.map V.int) none (some 63)))):=aF.new hl;refine k b _ (s1.free hb1) ⟨p,0,1234567891,0,cs,aH,by rw[br n1.symm];exact aH,by decide,by decide,by lia,hcs⟩ ((s1.trans (aF.new hp)).trans (aF.new hb))
theorem fk:aX ["_law_bag_here","_law_many","_law_more","_law_cell","_law_value","_law_first","_law_second"] ["_law_bag_here","_law_many"] (aK o8):=by walk_at "d"
theorem bM (T:Txt K mg Z):cE P w K mg base fw 1 Z.wH Z.vZ ["_law_bag_here","_law_many"] JU:=by
 refine T.bo.F.ok fk (λvs H Q E h=>?_) (λcdv A outer s H vs Q E hr h=>?_)
 ·obtain ⟨p,n,rfl,_⟩:=h;rfl
 ·obtain ⟨p,n,rfl,⟨q,a,b,c,cs,hp,hq,ha,hc,hcl,hcs⟩,hn,hn2,k⟩:=h;have nqp:q≠p:=GQ hp hq
  refine ⟨_,(gV (cZ (bA eY (aZ bS (pv 0) ar) ar (bH _)) (aw (a8 (i:=2) fk.nd rfl (Or.inl rfl) ar)
   (gV (cZ (bA qC (aZ bS (pv 0) ar) (bL be (by rfl) T.len aU (ae (aZ bS (pv 0) ar) aj)) (bH _)) (aw (a8 (i:=3) fk.nd rfl (Or.inl rfl) (aZ bS (aZ bS (pv 0) ar) (aZ bS (pv 0) ar)))
   (aw (Ku (pv 0) ar IX ar MY set_list)
   (aw (cZ (bA Ae (pv 3) ar (bH _)) (aA (eV (pv 3) (fB (pv 0) ar set_list))) bY)
   (aA (a8 (i:=2) fk.nd rfl (Or.inl rfl) (bI fM (bI l7 (pv 3) ar) ar)))))) bY)
   (aA (eV (bI l7 (bI fM (bI cQ (aZ bS (pv 0) ar) ar) (pv 2)) ar) (fB (pv 0) ar set_list))))) bY)
   (aw (cZ (bA yu (aZ bS (pv 0) ar) ar (bH _)) (aw (a8 (i:=4) fk.nd rfl (Or.inl rfl) (bI l7 (aZ bS (pv 0) ar) (pv 1)))
   (aw (eV (bI ik (aZ bS (pv 0) ar) (pv 1)) (fB (pv 0) ar set_list))
   (aA (aY (pv 4))))) bY)
   (aw (a8 (i:=5) fk.nd rfl (Or.inl rfl) (bI l7 (bI cQ (aZ bS (pv 0) ar) ar) ar))
   (aw (a8 (i:=6) fk.nd rfl (Or.inl rfl) (bI l7 (bI cQ (pv 5) ar) ar))
   (aw (cZ (bA yu (pv 1) ar (bH _)) (aA (aY (bI l7 (bI fM (bI cQ (pv 6) ar) (pv 5)) (pv 1)))) bY)
   (aA (aY (bI l7 (bI ik (pv 6) ar) (pv 1))))))))),?_⟩
  refine aP (σ:=[some (.ref p),some (.int n),none,none,none,none,none]) rfl ?_;refine ⟨λσ' H'=>∃(x y:Option V) (a' b' c':Int),σ'=[some (.ref p),some (.int n),x,y,none,none,none]/\H' p=some (.lst [.int a',.int b',.int c',.ref q])/\0<=a'/\0<=c'/\c'<=cs.length/\cU p H H',?_,?_⟩
  ·exists gQ (λh0=>?_) (λh0=>?_)
   ·exists ⟨λσ' H'=>∃(m:Int) (y:Option V) (a' c':Int),σ'=[some (.ref p),some (.int n),some (.int m),y,none,none,none]/\H' p=some (.lst [.int a',.int b,.int c',.ref q])/\0<=a'/\0<=c'/\c'<=cs.length/\cU p H H',?_,?_⟩
    ·exists ⟨_,_,rfl,.inl (bO.of hq),?_⟩;exists gQ (λh1=>?_) (λh1=>?_)
     ·have h1':c < cs.length:=by simpa using of_decide_eq_true h1
      obtain ⟨z,hz⟩:∃z,cs[c.toNat]?=some z:=⟨_,af (by lia)⟩;have hz0:0<=z:=hcs z (ax hz);exists cm (bO.of hq) (v:=.int z) ?_ ?_
      ·have:=dS (xs:=cs.map V.int) (j:=c.toNat) (v:=.int z) (by rw[aD,hz];rfl);rwa [Int.toNat_of_nonneg hc] at this
      exists gQ (λh2=>?_) (λh2=>?_)
      ·exists ⟨_,_,z,c+1,rfl,aH,hz0,by lia,by lia,(cU.set hp).trans (cU.set aH)⟩
      ·exists ⟨_,_,a,c+1,rfl,aH,ha,by lia,by lia,cU.set hp⟩
     ·exists ⟨_,_,a,c,rfl,hp,ha,hc,hcl,cU.refl _⟩
    ·rintro σ' H' ⟨m,y,a',c',rfl,hp',ha',hc',hcl',u'⟩;exists ⟨_,_,a',_,c',rfl,aH,ha',hc',hcl',u'.trans (cU.set hp')⟩
   ·exists ⟨_,_,a,b,c,rfl,hp,ha,hc,hcl,cU.refl _⟩
  ·rintro σ' H' ⟨x,y,a',b',c',rfl,hp',ha',hc',hcl',u'⟩;have hq':H' q=some (.lst (cs.map V.int)):=u'.1 q _ hq nqp
   have sn:Sz 8999 n:=by
    show n.natAbs < 2^8999
    exact bE (show n.natAbs < 2^64 by lia) (ao (by decide) (by decide))
   exists gQ (λh0=>?_) (λh0=>?_)
   ·exists fe (show (0:Int) < n from hn) ?_;exists fe (show oI _ _ from ⟨by lia,sn⟩) ?_;exists k _ _ (j7 _ (by lia)) (gI _ hn) ⟨q,_,b',c',cs,aH,by rw[br nqp];exact hq',?_,hc',hcl',hcs⟩ (u'.trans (cU.set hp'));rw[cA _ (by lia)];exact Int.ediv_nonneg ha' (by lia)
   ·exists gQ (λh1=>?_) (λh1=>?_)
    ·exists fe (show (0:Int) < n from hn) ?_;exact k _ _ (j7 _ (by lia)) (gI _ hn) ⟨q,a',b',c',cs,hp',hq',ha',hc',hcl',hcs⟩ u'
    ·exists fe (show oI _ _ from ⟨by decide,by show (3:Nat) < 2^8999;exact bE (show 3 < 2^2 by decide) (ao (by decide) (by decide))⟩) ?_;exists fe (show (0:Int) < n from hn) ?_;exact k _ _ (j7 _ (by lia)) (gI _ hn) ⟨q,a',b',c',cs,hp',hq',ha',hc',hcl',hcs⟩ u'
theorem zS:∃x1 x2 x3 x4 x5 x6 x7 x8 x9 x10 x11 x12 x13 x14 x15 x16:Expr,x1=(Expr.Constant (Const.int 0) 0 ⟨308,16,308,17⟩)/\x2=(Expr.Constant (Const.int 1) 0 ⟨308,19,308,20⟩)/\x3=(Expr.Constant (Const.int 1) 0 ⟨308,22,308,23⟩)/\x4=(Expr.Constant (Const.int 1) 0 ⟨308,25,308,26⟩)/\x5=(Expr.Constant (Const.int 2) 0 ⟨308,28,308,29⟩)/\x6=(Expr.Constant (Const.int 2) 0 ⟨308,31,308,32⟩)/\x7=(Expr.Constant (Const.int 3) 0 ⟨308,34,308,35⟩)/\x8=(Expr.Constant (Const.int 4) 0 ⟨308,37,308,38⟩)/\x9=(Expr.Constant (Const.int 0) 0 ⟨309,17,309,18⟩)/\x10=(Expr.Constant (Const.int 1) 0 ⟨309,20,309,21⟩)/\x11=(Expr.Constant (Const.int 1) 0 ⟨309,23,309,24⟩)/\x12=(Expr.Constant (Const.int 1) 0 ⟨309,26,309,27⟩)/\x13=(Expr.Constant (Const.int 2) 0 ⟨309,29,309,30⟩)/\x14=(Expr.Constant (Const.int 2) 0 ⟨309,32,309,33⟩)/\x15=(Expr.Constant (Const.int 3) 0 ⟨309,35,309,36⟩)/\x16=(Expr.Constant (Const.int 4) 0 ⟨309,38,309,39⟩)/\iF jU=[ (Stmt.Assign (targets:=[(Expr.Name "_law_n" ⟨305,4,305,10⟩)]) (value:=(Expr.Call (func:=(Expr.Name "_law_take" ⟨305,13,305,22⟩)) (args:=[ (Expr.Name "_law_bag_here" ⟨305,23,305,36⟩),(Expr.Constant (Const.int 5) 0 ⟨305,38,305,39⟩)]) (keywords:=[]) (pos:=⟨305,13,305,40⟩))) (pos:=⟨305,4,305,40⟩)),(Stmt.If (test:=(Expr.Compare (left:=(Expr.Call (func:=(Expr.Name "_law_take" ⟨306,7,306,16⟩)) (args:=[ (Expr.Name "_law_bag_here" ⟨306,17,306,30⟩),(Expr.Constant (Const.int 8) 0 ⟨306,32,306,33⟩)]) (keywords:=[]) (pos:=⟨306,7,306,34⟩))) (ops:=[PySem.CmpOp.Eq]) (comparators:=[(Expr.Constant (Const.int 7) 0 ⟨306,38,306,39⟩)]) (pos:=⟨306,7,306,39⟩))) (body:=[ (Stmt.Assign (targets:=[(Expr.Name "_law_n" ⟨307,8,307,14⟩)]) (value:=(Expr.Constant (Const.int 5) 0 ⟨307,17,307,18⟩)) (pos:=⟨307,8,307,18⟩))]) (orelse:=[]) (pos:=⟨306,4,307,18⟩)),(Stmt.Assign (targets:=[(Expr.Name "_law_ins" ⟨308,4,308,12⟩)]) (value:=(Expr.Subscript (value:=(Expr.List (elts:=[x1,x2,x3,x4,x5,x6,x7,x8]) (pos:=⟨308,15,308,39⟩))) (slice:=(Expr.Call (func:=(Expr.Name "_law_take" ⟨308,40,308,49⟩)) (args:=[ (Expr.Name "_law_bag_here" ⟨308,50,308,63⟩),(Expr.Constant (Const.int 8) 0 ⟨308,65,308,66⟩)]) (keywords:=[]) (pos:=⟨308,40,308,67⟩))) (pos:=⟨308,15,308,68⟩))) (pos:=⟨308,4,308,68⟩)),(Stmt.Assign (targets:=[(Expr.Name "_law_outs" ⟨309,4,309,13⟩)]) (value:=(Expr.Subscript (value:=(Expr.List (elts:=[x9,x10,x11,x12,x13,x14,x15,x16]) (pos:=⟨309,16,309,40⟩))) (slice:=(Expr.Call (func:=(Expr.Name "_law_take" ⟨309,41,309,50⟩)) (args:=[ (Expr.Name "_law_bag_here" ⟨309,51,309,64⟩),(Expr.Constant (Const.int 8) 0 ⟨309,66,309,67⟩)]) (keywords:=[]) (pos:=⟨309,41,309,68⟩))) (pos:=⟨309,16,309,69⟩))) (pos:=⟨309,4,309,69⟩)),(Stmt.If (test:=(Expr.Compare (left:=(Expr.Name "_law_n" ⟨310,7,310,13⟩)) (ops:=[PySem.CmpOp.Eq]) (comparators:=[(Expr.Constant (Const.int 5) 0 ⟨310,17,310,18⟩)]) (pos:=⟨310,7,310,18⟩))) (body:=[ (Stmt.Assign (targets:=[ (Expr.Tuple (elts:=[(Expr.Name "_law_ins" ⟨311,8,311,16⟩),(Expr.Name "_law_outs" ⟨311,18,311,27⟩)]) (k:=0) (pos:=⟨311,8,311,27⟩))]) (value:=(Expr.Tuple (elts:=[ (Expr.Call (func:=(Expr.Name "min" ⟨311,31,311,34⟩)) (args:=[ (Expr.Name "_law_ins" ⟨311,35,311,43⟩),(Expr.Constant (Const.int 2) 0 ⟨311,45,311,46⟩)]) (keywords:=[]) (pos:=⟨311,31,311,47⟩)),(Expr.Call (func:=(Expr.Name "min" ⟨311,49,311,52⟩)) (args:=[ (Expr.Name "_law_outs" ⟨311,53,311,62⟩),(Expr.Constant (Const.int 2) 0 ⟨311,64,311,65⟩)]) (keywords:=[]) (pos:=⟨311,49,311,66⟩))]) (k:=0) (pos:=⟨311,30,311,67⟩))) (pos:=⟨311,8,311,67⟩))]) (orelse:=[]) (pos:=⟨310,4,311,67⟩)),(Stmt.Assign (targets:=[(Expr.Name "_law_wide" ⟨312,4,312,13⟩)]) (value:=(Expr.Subscript (value:=(Expr.List (elts:=[ (Expr.Constant (Const.int 4) 0 ⟨312,17,312,18⟩),(Expr.Constant (Const.int 4) 0 ⟨312,20,312,21⟩),(Expr.Constant (Const.int 9) 0 ⟨312,23,312,24⟩),(Expr.Constant (Const.int 1000000) 0 ⟨312,26,312,33⟩)]) (pos:=⟨312,16,312,34⟩))) (slice:=(Expr.Call (func:=(Expr.Name "_law_take" ⟨312,35,312,44⟩)) (args:=[ (Expr.Name "_law_bag_here" ⟨312,45,312,58⟩),(Expr.Constant (Const.int 4) 0 ⟨312,60,312,61⟩)]) (keywords:=[]) (pos:=⟨312,35,312,62⟩))) (pos:=⟨312,16,312,63⟩))) (pos:=⟨312,4,312,63⟩)),(Stmt.If (test:=(Expr.Compare (left:=(Expr.Name "_law_wide" ⟨313,7,313,16⟩)) (ops:=[PySem.CmpOp.Gt]) (comparators:=[(Expr.Constant (Const.int 9) 0 ⟨313,19,313,20⟩)]) (pos:=⟨313,7,313,20⟩))) (body:=[ (Stmt.Assign (targets:=[(Expr.Name "_law_n" ⟨314,8,314,14⟩)]) (value:=(Expr.Call (func:=(Expr.Name "min" ⟨314,17,314,20⟩)) (args:=[ (Expr.Name "_law_n" ⟨314,21,314,27⟩),(Expr.Constant (Const.int 2) 0 ⟨314,29,314,30⟩)]) (keywords:=[]) (pos:=⟨314,17,314,31⟩))) (pos:=⟨314,8,314,31⟩))]) (orelse:=[]) (pos:=⟨313,4,314,31⟩)),(Stmt.Return (value:=(some (Expr.Tuple (elts:=[ (Expr.Name "_law_n" ⟨315,12,315,18⟩),(Expr.Name "_law_ins" ⟨315,20,315,28⟩),(Expr.Name "_law_outs" ⟨315,30,315,39⟩),(Expr.Name "_law_wide" ⟨315,41,315,50⟩)]) (k:=0) (pos:=⟨315,11,315,51⟩)))) (pos:=⟨315,4,315,51⟩))]:=⟨_,_,_,_,_,_,_,_,_,_,_,_,_,_,_,_,rfl,rfl,rfl,rfl,rfl,rfl,rfl,rfl,rfl,rfl,rfl,rfl,rfl,rfl,rfl,rfl,by with_unfolding_all rfl⟩
theorem dW:aX ["_law_bag_here","_law_n","_law_ins","_law_outs","_law_wide"] ["_law_bag_here"] (aK jU):=by walk_at "d"
theorem zO (T:Txt K mg Z):cE P w K mg base fw 2 Z.uA Z.ue ["_law_bag_here"] F2:=by
 refine T.mo.F.ok dW (λvs H Q E h=>?_) (λcdv A outer s H vs Q E hr h=>?_)
 ·obtain ⟨b,rfl,_⟩:=h;rfl
 ·obtain ⟨b,rfl,hB,k⟩:=h;obtain ⟨x1,x2,x3,x4,x5,x6,x7,x8,x9,x10,x11,x12,x13,x14,x15,x16,hx1,hx2,hx3,hx4,hx5,hx6,hx7,hx8,hx9,hx10,hx11,hx12,hx13,hx14,hx15,hx16,hbd⟩:=zS;rw[hbd]
  refine ⟨_,(aw (a8 (i:=1) dW.nd rfl (Or.inl rfl) (cL (bM T) hr T.bo (ae (pv 0) (ae ar aj))))
   (gV (cZ (bA eY (cL (bM T) hr T.bo (ae (pv 0) (ae ar aj))) ar (bH _)) (aA (a8 (i:=1) dW.nd rfl (Or.inl rfl) ar)) bY)
   (aw (a8 (i:=2) dW.nd rfl (Or.inl rfl) (aZ bS (eF (dO hx1 ar (dO hx2 ar (dO hx3 ar (dO hx4 ar (dO hx5 ar (dO hx6 ar (dO hx7 ar (dO hx8 ar aj))))))))) (cL (bM T) hr T.bo (ae (pv 0) (ae ar aj)))))
   (aw (a8 (i:=3) dW.nd rfl (Or.inl rfl) (aZ bS (eF (dO hx9 ar (dO hx10 ar (dO hx11 ar (dO hx12 ar (dO hx13 ar (dO hx14 ar (dO hx15 ar (dO hx16 ar aj))))))))) (cL (bM T) hr T.bo (ae (pv 0) (ae ar aj)))))
   (gV (cZ (bA eY (pv 1) ar (bH _)) (aA (Ih (i:=2) (j:=3) rfl dW.nd rfl rfl (by decide) rfl rfl (ae (bL (qg rfl) (by rfl) T.min PyProof.Rows.boot_min (ae (pv 2) (ae ar aj))) (ae (bL (qg rfl) (by rfl) T.min PyProof.Rows.boot_min (ae (pv 3) (ae ar aj))) aj)) rfl)) bY)
   (aw (a8 (i:=4) dW.nd rfl (Or.inl rfl) (aZ bS (eF (ae ar (ae ar (ae ar (ae ar aj))))) (cL (bM T) hr T.bo (ae (pv 0) (ae ar aj)))))
   (gV (cZ (bA yu (pv 4) ar (bH _)) (aA (a8 (i:=1) dW.nd rfl (Or.inl rfl) (bL (qg rfl) (by rfl) T.min PyProof.Rows.boot_min (ae (pv 1) (ae ar aj))))) bY)
   (aA (aY (cO (ae (pv 1) (ae (pv 2) (ae (pv 3) (ae (pv 4) aj)))))))))))))),?_⟩
  refine aP (σ:=[some (.ref b),none,none,none,none]) rfl ?_;exists ⟨b,5,rfl,hB,by decide,by decide,λn H1 n0 n1 B1 u1=>?_⟩;obtain ⟨n,rfl⟩:=gC n0;exists ⟨λσ' H'=>(∃n:Nat,σ'=[some (.ref b),some (.int n),none,none,none]/\n<=5)/\hZ H' b/\cU b H H',?_,?_⟩
  ·exists ⟨b,8,rfl,B1,by decide,by decide,λv H2 v0 v1 B2 u2=>?_⟩;exists gQ (λ_=>?_) (λ_=>?_)
   ·exists ⟨⟨5,rfl,by decide⟩,B2,u1.trans u2⟩
   ·exists ⟨⟨n,rfl,by lia⟩,B2,u1.trans u2⟩
  clear n0 n1 u1 B1;rintro σ' H1 ⟨⟨n,rfl,n5⟩,B1,u1⟩;exists dB λl0 H2 s2 n2 g2=>?_
  exists ⟨b,8,rfl,B1.same s2,by decide,by decide,λv H3 v0 v1 B3 u3=>?_⟩;have g3:=u3.other (λz=>B1.at (by rw[<- z];exact n2)) g2;obtain ⟨x,ex,mx,_⟩:=kC (xs:=[V.int 0,V.int 1,V.int 1,V.int 1,V.int 2,V.int 2,V.int 3,V.int 4]) v0 (by simpa using v1)
  obtain ⟨i,rfl,hi⟩:∃z:Nat,x=.int z/\z<=4:=by
   simp only[aE,aV,or_false] at mx;rcases mx with rfl | rfl | rfl | rfl | rfl | rfl | rfl | rfl
   ·exact ⟨0,rfl,by decide⟩
   ·exact ⟨1,rfl,by decide⟩
   ·exact ⟨1,rfl,by decide⟩
   ·exact ⟨1,rfl,by decide⟩
   ·exact ⟨2,rfl,by decide⟩
   ·exact ⟨2,rfl,by decide⟩
   ·exact ⟨3,rfl,by decide⟩
   ·exact ⟨4,rfl,by decide⟩
  exists cm (bO.of g3) ex ?_;clear ex mx g3 g2;exists dB λl1 H4 s4 n4 g4=>?_
  exists ⟨b,8,rfl,B3.same s4,by decide,by decide,λt H5 t0 t1 B5 u5=>?_⟩;have g5:=u5.other (λz=>B3.at (by rw[<- z];exact n4)) g4;obtain ⟨x,ex,mx,_⟩:=kC (xs:=[V.int 0,V.int 1,V.int 1,V.int 1,V.int 2,V.int 2,V.int 3,V.int 4]) t0 (by simpa using t1)
  obtain ⟨o,rfl,ho⟩:∃z:Nat,x=.int z/\z<=4:=by
   simp only[aE,aV,or_false] at mx;rcases mx with rfl | rfl | rfl | rfl | rfl | rfl | rfl | rfl
   ·exact ⟨0,rfl,by decide⟩
   ·exact ⟨1,rfl,by decide⟩
   ·exact ⟨1,rfl,by decide⟩
   ·exact ⟨1,rfl,by decide⟩
   ·exact ⟨2,rfl,by decide⟩
   ·exact ⟨2,rfl,by decide⟩
   ·exact ⟨3,rfl,by decide⟩
   ·exact ⟨4,rfl,by decide⟩
  exists cm (bO.of g5) ex ?_;clear ex mx g5 g4;have u15:=(((u1.same s2).trans u3).same s4).trans u5;exists ⟨λσ' H'=>(∃i o:Nat,σ'=[some (.ref b),some (.int n),some (.int i),some (.int o),none]/\i<=4/\o<=4/\(n=5->i<=2/\o<=2))/\hZ H' b/\cU b H H',?_,?_⟩
  ·exists gQ (λh0=>?_) (λh0=>?_)
   ·exists ⟨⟨min i 2,min o 2,?_,by lia,by lia,λ_=>⟨by lia,by lia⟩⟩,B5,u15⟩;have e1:(if (2:Int) < (i:Int) then (2:Int) else (i:Int))=((min i 2:Nat):Int):=by split <;> lia
    have e2:(if (2:Int) < (o:Int) then (2:Int) else (o:Int))=((min o 2:Nat):Int):=by split <;> lia
    rw[<- e1,<- e2];rfl
   ·exists ⟨⟨i,o,rfl,hi,ho,λz=>absurd (decide_eq_true (show (n:Int)=5 by lia)) h0⟩,B5,u15⟩
  clear hi ho u15 B5 u5 u3 u1;rintro σ' H5 ⟨⟨i,o,rfl,hi,ho,h5⟩,B5,u5⟩;exists dB λl2 H6 s6 n6 g6=>?_
  exists ⟨b,4,rfl,B5.same s6,by decide,by decide,λv H7 v0 v1 B7 u7=>?_⟩;have g7:=u7.other (λz=>B5.at (by rw[<- z];exact n6)) g6;obtain ⟨x,ex,mx,_⟩:=kC (xs:=[V.int 4,V.int 4,V.int 9,V.int 1000000]) v0 (by simpa using v1)
  obtain ⟨w,rfl,hw⟩:∃w:Nat,x=.int w/\(w=4\/w=9\/w=1000000):=by
   simp only[aE,aV,or_false] at mx;rcases mx with rfl | rfl | rfl | rfl
   ·exact ⟨4,rfl,.inl rfl⟩
   ·exact ⟨4,rfl,.inl rfl⟩
   ·exact ⟨9,rfl,.inr (.inl rfl)⟩
   ·exact ⟨1000000,rfl,.inr (.inr rfl)⟩
  exists cm (bO.of g7) ex ?_;have u07:=(u5.same s6).trans u7;exists ⟨λσ' H'=>(∃n:Nat,σ'=[some (.ref b),some (.int n),some (.int i),some (.int o),some (.int w)]/\n<=5/\(w=4\/w=9\/(w=1000000/\n<=2))/\(n=5->i<=2/\o<=2))/\hZ H' b/\cU b H H',?_,?_⟩
  ·exists gQ (λh0=>?_) (λh0=>?_)
   ·exists ⟨⟨min n 2,?_,by lia,by lia,λz=>by lia⟩,B7,u07⟩;have e1:(if (2:Int) < (n:Int) then (2:Int) else (n:Int))=((min n 2:Nat):Int):=by split <;> lia
    rw[<- e1];rfl
   ·exists ⟨⟨n,rfl,n5,?_,h5⟩,B7,u07⟩;rcases hw with z | z | z
    ·exact .inl z
    ·exact .inr (.inl z)
    ·exact absurd (decide_eq_true (show (9:Int) < (w:Int) by lia)) h0
  ·clear h5 n5;rintro σ' H8 ⟨⟨n',rfl,n5,hwn,h5⟩,B8,u8⟩;exists b6 λr H9 s9 g9=>?_
   exact k r n' i o w H9 g9 n5 hi ho hwn h5 (B8.same s9) (u8.same s9)
theorem fV:aX ["_law_bag_here","_law_n","_law_move_here","_law_at","_law_put","_law_first","_law_look"] ["_law_bag_here","_law_n"] (aK pC):=by walk_at "d"
theorem nL (T:Txt K mg Z):cE P w K mg base fw 2 Z.wV Z.wd ["_law_bag_here","_law_n"] (CQ K):=by
 refine T.iC.F.ok fV (λvs H Q E h=>?_) (λcdv A outer s H vs Q E hr h=>?_)
 ·obtain ⟨b,n,rfl,_⟩:=h;rfl
 ·obtain ⟨b,n,rfl,hB,n1,n8,k⟩:=h
  refine ⟨_,(aw (gF 2 ["_law_i"] ["_law_n"] [1] fV.nd rfl rfl (b7 rfl T.range (ae (pv 1) aj)) (λ_=>(aM (i:=0) (show ND9 ["_law_i","_law_n"] by decide +kernel) rfl (Or.inr rfl) (Or.inl rfl))) (λ_=>bZ) (λ_=>(bW ["_law_j"] ["_law_i"] [0] (b7 rfl T.range (ae (pv 1) aj)) (λ_=>(aM (i:=0) (show ND9 ["_law_j","_law_i"] by decide +kernel))) (λ_=>bZ) (λ_=>(cO (ae (eX j9 (by rfl) T.int PyProof.Rows.boot_int (ae (gG eY (pv 0) (bI fM (pv 1) ar) (bH _)) aj)) (ae ar aj)))))))
   (aw (eV (bW ["_law_j"] ["_law_bag_here"] [0] (b7 rfl T.range (ae (pv 1) aj)) (λ_=>(aM (i:=0) (show ND9 ["_law_j","_law_bag_here"] by decide +kernel))) (λ_=>bZ) (λ_=>(cO (ae (bI gM (cL (bM T) hr T.bo (ae (pv 1) (ae ar aj))) ar) (ae ar aj))))) (fB (pv 2) (bI gM (pv 1) ar) set_list))
   (aw (a8 (i:=3) fV.nd rfl (Or.inr rfl) (aZ bS (eF (ae (bI gM (pv 1) ar) (ae (cL (bM T) hr T.bo (ae (pv 0) (ae (pv 1) aj))) aj))) (cL (bM T) hr T.bo (ae (pv 0) (ae ar aj)))))
   (aw (a8 (i:=4) fV.nd rfl (Or.inl rfl) (eF (ae (bW ["_law_j"] ["_law_at"] [3] (b7 rfl T.range (ae (pv 1) aj)) (λ_=>(aM (i:=0) (show ND9 ["_law_j","_law_at"] by decide +kernel))) (λ_=>bZ) (λ_=>(cO (ae (eX j9 (by rfl) T.int PyProof.Rows.boot_int (ae (gG eY (pv 0) (pv 1) (bH _)) aj)) (ae ar aj))))) aj)))
   (aw (a8 (i:=5) fV.nd rfl (Or.inr rfl) (aZ bS (eF (ae ar (ae ar (ae (cL (bM T) hr T.bo (ae (pv 0) (ae (pv 1) aj))) aj)))) (cL (bM T) hr T.bo (ae (pv 0) (ae ar aj)))))
   (aw (a8 (i:=6) fV.nd rfl (Or.inl rfl) (eF (ae (bW ["_law_j"] ["_law_first"] [5] (b7 rfl T.range (ae (pv 1) aj)) (λ_=>(aM (i:=0) (show ND9 ["_law_j","_law_first"] by decide +kernel))) (λ_=>bZ) (λ_=>(cO (ae (eX j9 (by rfl) T.int PyProof.Rows.boot_int (ae (gG eY (pv 0) (pv 1) (bH _)) aj)) (ae ar aj))))) aj)))
   (aA (aY (cO (ae (pv 2) (ae (pv 4) (ae (pv 6) aj)))))))))))),?_⟩
  refine aP (σ:=[some (.ref b),some (.int n),none,none,none,none,none]) rfl ?_
  have bit:∀{z:Int},∀y∈(List.range n).map (λ(j:Nat)=>(((if decide ((j:Int)=z)=true then 1 else 0:Int)):Rat)),Fr 1 1 y:=λy hy=>by
   obtain ⟨j,_,rfl⟩:=ay.mp hy;exact NZ (by split <;> simp)
  exists ⟨by lia,by lia,?_⟩;refine fb (n:=n) (cI K H) (λ(i:Nat)=>(List.range n).map λ(j:Nat)=>(((if decide ((j:Int)=(i:Int)+1)=true then 1 else 0:Int)):Rat)) (by lia) (λa b=>a.same b) ?_ ?_
  ·rintro i Hb NY NN hi sa k1;exists ⟨by lia,by lia,?_⟩;refine fb (n:=n) (cb K) (λ(j:Nat)=>(((if decide ((j:Int)=(i:Int)+1)=true then 1 else 0:Int)):Rat)) (by lia) (λa b=>a.same b) ?_ ?_
   ·rintro j Hz NY2 NN2 hj sz k2;exists b6 λt Hy sy gy=>?_
    exact k2 _ _ sy (cb.mk gy rfl)
   ·rintro ys Hz t ht sz g pr nx;exact k1 _ _ sz ⟨t,rfl,sa.none ht,ys,g,pr⟩
  rintro ys H1 mm hm s1 g1 pr1 nx1;have G1:bB K H H1 mm ((List.range n).map λ(i:Nat)=>(List.range n).map λ(j:Nat)=>(((if decide ((j:Int)=(i:Int)+1)=true then 1 else 0:Int)):Rat)):=⟨ys,g1,pr1,fZ nx1⟩;clear g1 pr1 nx1;have B1:=hB.same s1;have mb:mm≠b:=λz=>hB.at (by rw[<- z];exact hm)
  obtain ⟨q0,I0,xq,gq0⟩:=hB.inner;have mq:mm≠q0:=λz=>by rw[<- z,hm] at gq0;cases gq0
  exists ⟨by lia,by lia,?_⟩;refine AB (n:=n) (b:=b) (cb K) (Fr 1 1) B1 (by lia) (λa u B=>a.upto u B) ?_ ?_
  ·rintro j Ha NY NN hj ua Ba k1;exists ⟨b,3,rfl,Ba,by decide,by decide,λv Hb v0 v1 Bb ub=>?_⟩;exists b6 λt Hc sc gc=>?_
   exact k1 _ ((v - 1:Int):Rat) _ (ub.same sc) (Bb.same sc) (Fr.int (by lia)) (cb.mk gc rfl)
  rintro ys2 cs H2 q2 hq2 u2 B2 g2 lc hc pr2 _;have u02:=(s1.upto (p:=b)).trans u2;have nq2:H q2=none:=s1.none hq2;obtain ⟨us,gu,pu⟩:=(G1.upto u2 B1 mb hB.at).toE;have lu:=pu.length;rw[ag,bR] at lu
  have q2m:q2≠mm:=λz=>by
   obtain ⟨_,gg,_⟩:=id G1;rw[z,gg] at hq2;cases hq2
  walk_at "w";rw[show ((n:Int) - 1)=((n - 1:Nat):Int) by lia];refine eo gu (eK (by lia)) rfl ?_;have G3:bB K H (upd H2 mm (.lst (us.set (n - 1) (.ref q2)))) mm (((List.range n).map λ(i:Nat)=>(List.range n).map λ(j:Nat)=>(((if decide ((j:Int)=(i:Int)+1)=true then 1 else 0:Int)):Rat)).set (n - 1) cs):=bB.ofE aH (gL (Paired.imp' (λ_ _ z=>mD.updL z gu (λq h=>h.2)) pu) (n - 1) ⟨q2,rfl,⟨nq2,q2m⟩,dC.updL ⟨ys2,g2,pr2⟩ gu q2m⟩) (λq h=>h.1) (λq h=>h.2);have B3:hZ (upd H2 mm (.lst (us.set (n - 1) (.ref q2)))) b:=B2.upd (u02.2 _ I0) mb mq;have u03:cU b H (upd H2 mm (.lst (us.set (n - 1) (.ref q2)))):=u02.after hm;obtain ⟨mv,emv⟩:∃mv,mv=((List.range n).map λ(i:Nat)=>(List.range n).map λ(j:Nat)=>(((if decide ((j:Int)=(i:Int)+1)=true then 1 else 0:Int)):Rat)).set (n - 1) cs:=⟨_,rfl⟩;have lmv:mv.length=n:=by rw[emv,dQ,ag,bR]
  have hmv:∀xs∈mv,xs.length=n/\∀y∈xs,Fr 1 1 y:=λxs hx=>by
   rw[emv] at hx;rcases cu hx with hx | rfl
   ·obtain ⟨i,_,rfl⟩:=ay.mp hx;exact ⟨by rw[ag,bR],bit⟩
   ·exact ⟨lc,hc⟩
  rw[<- emv] at G3;generalize upd H2 mm (.lst (us.set (n - 1) (.ref q2)))=H3 at G3 B3 u03 ⊢;clear emv pu gu G1 u2 pr2 g2 B2;exists ⟨b,n,rfl,B3,by lia,by lia,λa1 H4 a10 a11 B4 u4=>?_⟩;exists dB λl1 H5 s5 nl1 g5=>?_
  exists ⟨b,2,rfl,B4.same s5,by decide,by decide,λv H6 v0 v1 B6 u6=>?_⟩;have g6:=u6.other (λz=>B4.at (by rw[<- z];exact nl1)) g5;obtain ⟨x,ex,mx,_⟩:=kC (xs:=[V.int ((n:Int) - 1),V.int a1]) v0 (by simpa using v1)
  obtain ⟨at',rfl⟩:∃a:Int,x=.int a:=by
   simp only[aE,aV,or_false] at mx;rcases mx with rfl | rfl
   ·exact ⟨_,rfl⟩
   ·exact ⟨_,rfl⟩
  exists cm (bO.of g6) ex ?_;have u36:=(u4.same s5).trans u6;have G6:=G3.upto u36 B3 mb hB.at;have u06:=u03.trans u36;clear ex mx g6 g5 G3 u4 u6;exists ⟨by lia,by lia,?_⟩;refine fb (n:=n) (cb K) (λ(j:Nat)=>(((if decide ((j:Int)=at')=true then 1 else 0:Int)):Rat)) (by lia) (λa b=>a.same b) ?_ ?_
  ·rintro j Hz NY2 NN2 hj sz k2;exists b6 λt Hy sy gy=>?_
   exact k2 _ _ sy (cb.mk gy rfl)
  rintro ys7 H7 q7 hq7 s7 g7 pr7 _;have R7:dC K H7 q7 _:=⟨ys7,g7,pr7⟩;exists dB λp8 H8 s8 n8' g8=>?_
  have s68:=s7.trans s8;have q78:q7≠p8:=λz=>by rw[z,n8'] at g7;cases g7
  have np8:H p8=none:=u06.none B6 (s7.none n8');have nq7:H q7=none:=u06.none B6 hq7
  have GP:bB K H H8 p8 [(List.range n).map λ(j:Nat)=>(((if decide ((j:Int)=at')=true then 1 else 0:Int)):Rat)]:=⟨_,g8,.cons ⟨q7,rfl,nq7,R7.same s8⟩ .nil,λz=>by
   rw[cz] at z;cases z;exact q78 rfl⟩
  have B8:=B6.same s68;have u08:=u06.same s68;have G8:=G6.same s68;have pb:p8≠b:=λz=>hB.at (by rw[<- z];exact np8)
  exists ⟨b,n,rfl,B8,by lia,by lia,λa2 H9 a20 a21 B9 u9=>?_⟩;exists dB λl2 Ha sa nl2 ga=>?_
  exists ⟨b,3,rfl,B9.same sa,by decide,by decide,λv' Hb v0' v1' Bb ub=>?_⟩;have gb:=ub.other (λz=>B9.at (by rw[<- z];exact nl2)) ga;obtain ⟨x,ex,mx,_⟩:=kC (xs:=[V.int 0,V.int 0,V.int a2]) v0' (by simpa using v1')
  obtain ⟨fi,rfl⟩:∃a:Int,x=.int a:=by
   simp only[aE,aV,or_false] at mx;rcases mx with rfl | rfl | rfl
   ·exact ⟨_,rfl⟩
   ·exact ⟨_,rfl⟩
   ·exact ⟨_,rfl⟩
  exists cm (bO.of gb) ex ?_;have u8b:=(u9.same sa).trans ub;have Gb:=G8.upto u8b B8 mb hB.at;have GPb:=GP.upto u8b B8 pb hB.at;have u0b:=u08.trans u8b;clear ex mx gb ga G8 GP u9 ub;exists ⟨by lia,by lia,?_⟩;refine fb (n:=n) (cb K) (λ(j:Nat)=>(((if decide ((j:Int)=fi)=true then 1 else 0:Int)):Rat)) (by lia) (λa b=>a.same b) ?_ ?_
  ·rintro j Hz NY2 NN2 hj sz k2;exists b6 λt Hy sy gy=>?_
   exact k2 _ _ sy (cb.mk gy rfl)
  rintro ysc Hc qc hqc sc gc prc _;have Rc:dC K Hc qc _:=⟨ysc,gc,prc⟩;exists dB λpd Hd sd nd gd=>?_
  have sbd:=sc.trans sd;have qcd:qc≠pd:=λz=>by rw[z,nd] at gc;cases gc
  have npd:H pd=none:=u0b.none Bb (sc.none nd);have nqc:H qc=none:=u0b.none Bb hqc
  have GL:bB K H Hd pd [(List.range n).map λ(j:Nat)=>(((if decide ((j:Int)=fi)=true then 1 else 0:Int)):Rat)]:=⟨_,gd,.cons ⟨qc,rfl,nqc,Rc.same sd⟩ .nil,λz=>by
   rw[cz] at z;cases z;exact qcd rfl⟩
  exists b6 λr He se ge=>?_
  have sbe:=sbd.trans se;refine k r mv _ _ He ⟨mm,p8,pd,ge,hm,np8,npd,Gb.same sbe,GPb.same sbe,GL.same se⟩ lmv rfl rfl ⟨by lia,by simp,by simp,λxs hx=>by rw[(hmv xs hx).1,lmv],λxs hx=>?_,λxs hx=>?_⟩ (λxs hx=>(hmv xs hx).2) (λxs hx=>?_) (λxs hx=>?_) (Bb.same sbe) (u0b.same sbe)
  ·rw[cz.mp hx,ag,bR,lmv]
  ·rw[cz.mp hx,ag,bR,lmv]
  ·rw[cz.mp hx];exact bit
  ·rw[cz.mp hx];exact bit
theorem kI:aX ["_law_top","_law_bottom","_law_one","_law_other"] ["_law_top","_law_bottom"] (aK rT):=by walk_at "d"
theorem fg (T:Txt K mg Z):cE P w K mg base fw 1 Z.zj Z.yX ["_law_top","_law_bottom"] Me:=by
 refine T.dX.F.ok kI (λvs H Q E h=>?_) (λcdv A outer s H vs Q E hr h=>?_)
 ·obtain ⟨t,b,rfl,_⟩:=h;rfl
 ·obtain ⟨t,b,rfl,hb,hs,k⟩:=h
  refine ⟨_,(aw (a8 (i:=2) kI.nd rfl (Or.inl rfl) (bL y9 (by rfl) T.abs PyProof.Rows.boot_abs (ae (pv 0) aj)))
   (aw (a8 (i:=3) kI.nd rfl (Or.inl rfl) (pv 1))
   (aw (yi PassesOwn.never (bA tD (pv 2) ar (bH _))
    (aA (Ih (i:=2) (j:=3) rfl kI.nd rfl rfl (by decide) rfl rfl (ae (bI l7 (pv 3) (pv 2)) (ae (pv 2) aj)) rfl)))
   (aA (aY (cO (ae (bI ik (pv 0) (pv 3)) (ae (bI ik (pv 1) (pv 3)) aj)))))))),?_⟩
  refine aP (σ:=[some (.int t),some (.int b),none,none]) rfl ?_;walk_at "w"
  refine A2 (λσ' H'=>∃(u v:Int),σ'=[some (.int t),some (.int b),some (.int u),some (.int v)]/\H'=H/\0<=u/\0 < v/\Int.gcd u v=Int.gcd t b) (λσ' _=>match σ' with | [_,_,some (.int u),_]=>u.natAbs | _=>0) ⟨_,b,rfl,rfl,by split <;> lia,hb,by
   split
   ·rw[Int.neg_gcd]
   ·rfl⟩ ?_
  rintro σ' H' ⟨u,v,rfl,rfl,hu,hv,hg⟩;exists gQ (λh=>?_) (λh=>?_)
  ·have hu0:u≠0:=λz=>by subst z;simp at h
   exists fe (show (0:Int) < u by lia) ?_;walk_at "w";have h1:=j7 v hu0;have h2:=gI v (show 0 < u by lia);exact ⟨⟨v % u,u,rfl,rfl,h1,by lia,by rw[jz,Jb,jz];exact hg⟩,by show (v % u).natAbs < u.natAbs;lia⟩
  ·have hu0:u=0:=by
    by_cases z:u=0
    ·exact z
    ·exfalso;apply h;simp [z]
   subst hu0
   have e:v=g t b:=by
    unfold g;rw[<- hg,Int.gcd_zero_left]
    lia
   have hgs:Sz 8999 v:=hs.le (by
    rw[e];have h1:(g t b).natAbs=Int.gcd t b:=by unfold g;simp
    rw[h1];exact ia (by lia) (by have:=eN (a:=t) (b:=b);exact d4.mpr this |> λz=>by simpa using z))
   exists fe (show oI _ _ from ⟨by lia,hgs⟩) ?_;exists fe (show oI _ _ from ⟨by lia,hgs⟩) ?_;exists b6 λr H' s' h'=>?_
   rw[cA _ (by lia),cA _ (by lia),e] at h';exact k r H' s' h'
theorem C1:aX ["_law_one","_law_other"] ["_law_one","_law_other"] (aK rR):=by walk_at "d"
theorem kN (T:Txt K mg Z):cE P w K mg base fw 2 Z.zh Z.yV ["_law_one","_law_other"] (m3 K (λx y=>x+y)):=by
 refine T.gW.F.ok C1 (λvs H Q E h=>?_) (λcdv A outer s H vs Q E hr h=>?_)
 ·obtain ⟨p,q,a,b,c,d,rfl,hp,hq,hb,hd,sa,sb,sc,sd,k⟩:=FK h;rfl
 ·obtain ⟨p,q,a,b,c,d,rfl,hp,hq,hb,hd,sa,sb,sc,sd,k⟩:=FK h;refine ⟨_,(aA (aY (cL (fg T) hr T.dX (ae (bI fM (bI cQ (aZ bU (pv 0) ar) (aZ bU (pv 1) ar)) (bI cQ (aZ bU (pv 1) ar) (aZ bU (pv 0) ar))) (ae (bI cQ (aZ bU (pv 0) ar) (aZ bU (pv 1) ar)) aj))))),?_⟩;refine aP (σ:=[some (.ref p),some (.ref q)]) rfl ?_;have hbd:0 < b*d:=gE hb hd;have sbd:Sz 8999 (b*d):=(sb.mul sd).mono (by decide);exists fe (show fh _ _ from .inr ⟨_,_,sa,sd,by decide⟩) ?_;exists fe (show fh _ _ from .inr ⟨_,_,sc,sb,by decide⟩) ?_;exists fe (show fh _ _ from .inr ⟨_,_,sb,sd,by decide⟩) ?_;walk_at "w";exists ⟨_,_,rfl,hbd,sbd,k⟩
theorem Bp:aX ["_law_one","_law_other"] ["_law_one","_law_other"] (aK ph):=by walk_at "d"
theorem BK (T:Txt K mg Z):cE P w K mg base fw 3 Z.wM Z.v8 ["_law_one","_law_other"] (CO K):=by
 refine T.nX.F.ok Bp (λvs H Q E h=>?_) (λcdv A outer s H vs Q E hr h=>?_)
 ·obtain ⟨p,q,xs,ys,rfl,_⟩:=h;rfl
 ·obtain ⟨p,q,xs,ys,rfl,hp,hq,hl,hz,h1,h2,kk⟩:=h;refine ⟨_,(aA (aY (bW ["_law_k"] ["_law_one","_law_other"] [0,1] (b7 rfl T.range (ae (bL be (by rfl) T.len aU (ae (pv 0) aj)) aj)) (λ_=>(aM (i:=0) (show ND9 ["_law_k","_law_one","_law_other"] by decide +kernel))) (λ_=>bZ) (λ_=>(cL (kN T) hr T.gW (ae (aZ (fu K (by rfl)) (pv 1) (pv 0)) (ae (aZ (fu K (by rfl)) (pv 2) (pv 0)) aj))))))),?_⟩;refine aP (σ:=[some (.ref p),some (.ref q)]) rfl ?_;obtain ⟨us,gu,qu⟩:=id hp;obtain ⟨ws,gw,qw⟩:=id hq;have lu:=qu.length;exists ⟨_,_,rfl,.inl (bO.of gu),?_⟩;exists ⟨by lia,by lia,?_⟩;refine fb (n:=us.length) (cb K) (λi=>xs.getD i 0+ys.getD i 0) (by lia) (λa b=>a.same b) ?_ ?_
  ·rintro i H' NY NN hi s k1;have ix:i < xs.length:=by lia
   have iy:i < ys.length:=by lia
   obtain ⟨vx,ex,nx⟩:=Dq (Paired.imp' (λ_ _ z=>z.same s) qu) ix;obtain ⟨vy,ey,ny⟩:=Dq (Paired.imp' (λ_ _ z=>z.same s) qw) iy;exists cm (bO.of (s _ _ gu)) ex ?_;exists cm (bO.of (s _ _ gw)) ey ?_;exists ⟨_,_,_,_,rfl,nx,ny,h1 _ (getD_mem ix),h2 _ (getD_mem iy),λr3 H3 s3 n3=>k1 _ _ s3 n3⟩
  ·rintro ys' H' l hl' s g pr nx;exact kk l H' hl' s ⟨ys',g,by rw[FX (by lia)];rw[<- lu] at pr;exact pr⟩
theorem Bo:aX ["_law_one","_law_other"] ["_law_one","_law_other"] (aK pe):=by walk_at "d"
theorem jW (T:Txt K mg Z):cE P w K mg base fw 2 Z.wL Z.v7 ["_law_one","_law_other"] (m3 K (λx y=>x*y)):=by
 refine T.fW.F.ok Bo (λvs H Q E h=>?_) (λcdv A outer s H vs Q E hr h=>?_)
 ·obtain ⟨p,q,a,b,c,d,rfl,hp,hq,hb,hd,sa,sb,sc,sd,k⟩:=Fh h;rfl
 ·obtain ⟨p,q,a,b,c,d,rfl,hp,hq,hb,hd,sa,sb,sc,sd,k⟩:=Fh h;refine ⟨_,(aA (aY (cL (fg T) hr T.dX (ae (bI cQ (aZ bU (pv 0) ar) (aZ bU (pv 1) ar)) (ae (bI cQ (aZ bU (pv 0) ar) (aZ bU (pv 1) ar)) aj))))),?_⟩;refine aP (σ:=[some (.ref p),some (.ref q)]) rfl ?_;have hbd:0 < b*d:=gE hb hd;have sbd:Sz 8999 (b*d):=(sb.mul sd).mono (by decide);exists fe (show fh _ _ from .inr ⟨_,_,sa,sc,by decide⟩) ?_;exists fe (show fh _ _ from .inr ⟨_,_,sb,sd,by decide⟩) ?_;walk_at "w";exists ⟨_,_,rfl,hbd,sbd,k⟩
theorem D5:aX ["_law_by_here","_law_row_here"] ["_law_by_here","_law_row_here"] (aK vd):=by walk_at "d"
theorem nN (T:Txt K mg Z):cE P w K mg base fw 3 Z.AU Z.Ay ["_law_by_here","_law_row_here"] (HM K):=by
 refine T.jb.F.ok D5 (λvs H Q E h=>?_) (λcdv A outer s H vs Q E hr h=>?_)
 ·obtain ⟨u,q,c,ys,rfl,_⟩:=h;rfl
 ·obtain ⟨u,q,c,ys,rfl,hc,sc,hq,hz,h2,kk⟩:=h;refine ⟨_,(aA (aY (bW ["_law_one"] ["_law_by_here"] [0] (ck (pv 1)) (λ_=>(aM (i:=0) (show ND9 ["_law_one","_law_by_here"] by decide +kernel))) (λ_=>bZ) (λ_=>(cL (jW T) hr T.fW (ae (pv 1) (ae (pv 0) aj))))))),?_⟩;refine aP (σ:=[some u,some (.ref q)]) rfl ?_;obtain ⟨us,gu,qu⟩:=id hq;exists ⟨⟨_,bO.of gu⟩,?_⟩;refine c8 (K:=K) (F:=cb K) (cb K) (λy=>c*y) gu qu hz (λa b=>a.same b) (λa b=>a.same b) ?_ ?_
  ·rintro i y x H' NY NN en s hx k;exists ⟨_,_,_,_,rfl,hc.same s,hx,sc,h2 y (ax en),λr H2 s2 h2'=>k _ _ s2 h2'⟩
  ·rintro ys' H' r hr s g pr nx;exact kk r H' hr s ⟨ys',g,pr⟩
theorem dA:aX ["_law_bag_here","_law_move_here","_law_put","_law_look","_law_n","_law_turn","_law_i","_law_j","_law_by_here","_law_less_here","_law_row_here"] ["_law_bag_here","_law_move_here","_law_put","_law_look"] (aK nD):=by walk_at "d"
theorem qG (T:Txt K mg Z):cE P w K mg base fw 4 Z.uD Z.uh ["_law_bag_here","_law_move_here","_law_put","_law_look"] (z8 K):=by
 refine T.jo.F.ok dA (λvs H Q E h=>?_) (λcdv A outer s H vs Q E hr h=>?_)
 ·obtain ⟨b,m,p,l,q0,n,WV,μ,A,us,ws,vs,rfl,_⟩:=h;rfl
 ·obtain ⟨b,m,p,l,q0,n,WV,μ,A,us,ws,vs,rfl,MA,X,n8,i4,o4,M0,M1,⟨M,eM⟩,V1,hA,k⟩:=h
  refine ⟨_,(aw (a8 (i:=4) dA.nd rfl (Or.inl rfl) (bL be (by rfl) T.len aU (ae (pv 1) aj)))
   (aw (cZ (PW.pt (kL (bA qC (pv 4) ar (bH _)) (iW (bA eY (cL (bM T) hr T.bo (ae (pv 0) (ae ar aj))) ar (bH _))))) (aA (aY (cO (ae (pv 1) (ae (pv 2) (ae (pv 3) aj)))))) bY)
   (aw (eE PassesOwn.never rfl (b7 rfl T.range (ae (bI fM ar (cL (bM T) hr T.bo (ae (pv 0) (ae ar aj)))) aj)) (aM (i:=5) dA.nd)
    (aw (a8 (i:=6) dA.nd rfl (Or.inl rfl) (cL (bM T) hr T.bo (ae (pv 0) (ae (pv 4) aj))))
   (aw (a8 (i:=7) dA.nd rfl (Or.inl rfl) (bI l7 (bI fM (bI fM (pv 6) ar) (cL (bM T) hr T.bo (ae (pv 0) (ae (bI gM (pv 4) ar) aj)))) (pv 4)))
   (aw (a8 (i:=8) dA.nd rfl (Or.inl rfl) (cO (ae (aZ bS (eF (ae ar (ae (yp rF ar) (ae ar (ae (yp rF ar) aj))))) (cL (bM T) hr T.bo (ae (pv 0) (ae ar aj)))) (ae ar aj))))
   (aw (a8 (i:=9) dA.nd rfl (Or.inl rfl) (cO (ae (bI gM ar (aZ bU (pv 8) ar)) (ae ar aj))))
   (aw (eV (cL (BK T) hr T.nX (ae (aZ bS (pv 1) (pv 6)) (ae (cL (nN T) hr T.jb (ae (pv 8) (ae (aZ bS (pv 1) (pv 7)) aj))) aj))) (fB (pv 1) (pv 6) set_list))
   (aw (eE PassesOwn.never rfl (ck (bI jN (pv 1) (pv 3))) (aM (i:=10) dA.nd)
    (aA (eV (cL (kN T) hr T.gW (ae (aZ bS (pv 10) (pv 7)) (ae (cL (jW T) hr T.fW (ae (pv 9) (ae (aZ bS (pv 10) (pv 6)) aj))) aj))) (fB (pv 10) (pv 7) set_list))))
   (aA (eE PassesOwn.never rfl (ck (pv 2)) (aM (i:=10) dA.nd)
    (aA (eV (cL (kN T) hr T.gW (ae (aZ bS (pv 10) (pv 6)) (ae (cL (jW T) hr T.fW (ae (pv 8) (ae (aZ bS (pv 10) (pv 7)) aj))) aj))) (fB (pv 10) (pv 6) set_list))))))))))))
   (aA (aY (cO (ae (pv 1) (ae (pv 2) (ae (pv 3) aj))))))))),?_⟩
  refine aP (σ:=[some (.ref b),some (.ref m),some (.ref p),some (.ref l),none,none,none,none,none,none,none]) rfl ?_;have done:∀r us' H' t,t<=3->H' r=some (.tup [.ref m,.ref p,.ref l])->iJ K A H' n (λx=>Fr (μ x) (9^t*WV)) m p l b q0 us' ws vs->gs A b m H H'->Q (.ref r) H':=λr us' H' t ht g x kp=>k r us' H' g (x.weak λ_ _ y h=>h.mono (az _ (ao (by decide) ht))) kp
  have X0:iJ K A H n (λx=>Fr (μ x) (9^0*WV)) m p l b q0 us ws vs:=X.weak λ_ _ y h=>h.mono (by simp)
  clear X k;have gu:=X0.gm;have lu:=X0.lm;exists ⟨_,_,rfl,.inl (bO.of gu),?_⟩;rw[lu];clear gu lu;have kp0:gs A b m H H:=λ_ _ h _ _ _=>h
  exists gQ (λh0=>?_) (λh0=>?_)
  ·exists b6 λr H' s' g'=>?_
   exact done r us H' 0 (by decide) g' (X0.same s') (kp0.same s')
  have n2:2<=n:=by
   rcases bP n 2 with z | z
   ·exact absurd (decide_eq_true (show (n:Int) < 2 by lia)) h0
   ·exact z
  exists ⟨b,2,rfl,X0.bag,by decide,by decide,λv H1 v0 v1 B1 u1=>?_⟩;have X1:=X0.upto MA u1 B1;have kp1:=kp0.upto u1;exists gQ (λh1=>?_) (λh1=>?_)
  ·exists b6 λr H' s' g'=>?_
   exact done r us H' 0 (by decide) g' (X1.same s') (kp1.same s')
  exists ⟨b,3,rfl,B1,by decide,by decide,λc H2 c0 c1 B2 u2=>?_⟩;have X2:=X1.upto MA u2 B2;have kp2:=kp1.upto u2;clear X0 X1 kp0 kp1 u1 u2 B1;exists ⟨by lia,by lia,?_⟩;refine eP (n:=(1+c).toNat) (λt σ' H'=>∃(x1 x2 x3 x4 x5 x6:Option V) (us:List V),σ'=[some (.ref b),some (.ref m),some (.ref p),some (.ref l),some (.int n),x1,x2,x3,x4,x5,x6]/\iJ K A H' n (λx=>Fr (μ x) (9^t*WV)) m p l b q0 us ws vs/\gs A b m H H') ⟨none,none,none,none,none,none,us,rfl,X2,kp2⟩ ?_ ?_
  ·rintro t σ' H' ht ⟨x1,x2,x3,x4,x5,x6,us,rfl,X,kp⟩;have t3:t<=2:=by lia
   exists ⟨b,n,rfl,X.bag,by lia,by lia,λii Ha i0 i1 Ba ua=>?_⟩;obtain ⟨ii,rfl⟩:=gC i0;have Xa:=X.upto MA ua Ba;have kpa:=kp.upto ua;exists ⟨b,_,rfl,Ba,by lia,by lia,λd Hb d0 d1 Bb ub=>?_⟩;have Xb:=Xa.upto MA ub Bb;have kpb:=kpa.upto ub;exists fe (show (0:Int) < n by lia) ?_;have j0:=j7 ((ii:Int)+1+d) (show (n:Int)≠0 by lia);have j1:=gI ((ii:Int)+1+d) (show (0:Int) < n by lia);generalize ((ii:Int)+1+d) % (n:Int)=jj at j0 j1 ⊢;obtain ⟨jj,rfl⟩:=gC j0;exists dB λl0 Hc sc nc gc=>?_
   exists ⟨b,4,rfl,Bb.same sc,by decide,by decide,λv' Hd v0' v1' Bd ud=>?_⟩;have gd:=ud.other (λz=>Bb.at (by rw[<- z];exact nc)) gc;obtain ⟨x,ex,mx,_⟩:=kC (xs:=[V.int 1,V.int (-1),V.int 2,V.int (-2)]) v0' (by simpa using v1')
   obtain ⟨z,rfl,hz⟩:∃z:Int,x=.int z/\z.natAbs<=2:=by
    simp only[aE,aV,or_false] at mx;rcases mx with rfl | rfl | rfl | rfl
    ·exact ⟨1,rfl,by decide⟩
    ·exact ⟨-1,rfl,by decide⟩
    ·exact ⟨2,rfl,by decide⟩
    ·exact ⟨-2,rfl,by decide⟩
   have Xd:=(Xb.same sc).upto MA ud Bd;have kpd:=(kpb.same sc).upto ud;exists cm (bO.of gd) ex ?_;exists b6 λbt He se ge=>?_
   exists b6 λlt Hf sf gf=>?_
   have Xf:=(Xd.same se).same sf;have kpf:=(kpd.same se).same sf;have nb:cb K Hf ((z:Int):Rat) (.ref bt):=cb.mk (sf _ _ ge) rfl;have nl:cb K Hf ((0 - z:Int):Rat) (.ref lt):=cb.mk gf rfl;clear X Xa Xb Xd kp kpa kpb kpd ua ub ud sc gc gd ex mx ge gf se sf Ba Bb Bd nc;have gu:=Xf.gm;have lu:=Xf.lm
   have ru:∀x∈us,eT K A Hf n (Fr M (9^t*WV)) x:=λx hx=>by
    have:=Xf.row x (by simp [hx]);rwa [eM x (Xf.apart.1 x hx).1 (Xf.apart.1 x hx).2] at this
   have hM:0 < M/\M<=2^800:=by
    have hx:us[ii]'(by lia)∈us:=aO _;have:=eM _ (Xf.apart.1 _ hx).1 (Xf.apart.1 _ hx).2;rw[<- this];exact ⟨M0 _,M1 _⟩
   have e1:us[ii]?=some (us[ii]'(by lia)):=by simp
   have e2:us[jj]?=some (us[jj]'(by lia)):=by simp
   obtain ⟨q1,z1,qs1,w1,a1,g1,k1,p1,l1,c1⟩:=(ru _ (ax e1)).at;obtain ⟨q2,z2,qs2,w2,a2,g2,k2,p2,l2,c2⟩:=(ru _ (ax e2)).at;rw[w1] at e1;rw[w2] at e2;generalize eW:9^t*WV=W at *
   have W9:9*W<=2^140:=by rw[<- eW];exact Kw (by lia) V1 (by decide)
   have sz9M:∀{x:Rat} {U:Nat},U<=9*W->Fr M U x->mU x:=λhU h=>Fy hM.1 hM.2 (ai hU W9) h
   have sz9:∀{x:Rat} {U:Nat} {v:V},U<=9*W->Fr (μ v) U x->mU x:=λhU h=>Fy (M0 _) (M1 _) (ai hU W9) h
   exists cm (bO.of gu) (dS e1) ?_;exists cm (bO.of gu) (dS e2) ?_;exists ⟨_,q2,_,qs2,rfl,nb,A9 (by lia),⟨z2,g2,p2⟩,by lia,λy hy=>sz9M (by lia) (c2 y hy),λr1 Hg n1 sg R1=>?_⟩;exists ⟨q1,r1,qs1,_,rfl,⟨z1,sg _ _ g1,Paired.imp' (λ_ _ y=>y.same sg) p1⟩,R1,by rw[ag,l1,l2],by lia,λy hy=>sz9M (by lia) (c1 y hy),λy hy=>?_,λr2 Hh n2' sh R2=>?_⟩
   ·obtain ⟨y',hy',rfl⟩:=ay.mp hy;exact xI hz (c2 y' hy') hM.1 hM.2 (by lia)
   have sfh:=sg.trans sh
   have new:V.ref r2∉us++vs++ws:=λz=>by
    obtain ⟨q',_,_,e',_,g',_⟩:=((Xf.same sg).row _ z).at;cases e';rw[n2'] at g';cases g'
   have Xh:=(Xf.same sfh).weak (C':=λx y=>(x∈ws->Fr (μ x) W y)/\Fr (μ x) (3*W) y) λx _ y h=>⟨λ_=>h,h.mono (by lia)⟩
   have kph:=kpf.same sfh;have guh:=sfh _ _ gu;have ar2:A r2:=(kpf.same sg).new hA (Xf.same sg).bag (by rw[sg _ _ gu];simp) n2'
   have rp2:eT K A Hh n (λy=>(V.ref r2∈ws->Fr (μ (.ref r2)) W y)/\Fr (μ (.ref r2)) (3*W) y) (.ref r2):=by
    rw[eM (.ref r2) (λz=>new (au.mpr (.inr z))) (λz=>new (au.mpr (.inl (au.mpr (.inr z)))))];refine ⟨r2,_,rfl,ar2,R2,by rw[df,ag];lia,λy hy=>⟨λz=>absurd (au.mpr (.inr z)) new,?_⟩⟩;obtain ⟨j',hj',e⟩:=aQ hy;rw[oM,mX] at e;rw[<- e];exact Cc hz (c1 _ (aO _)) (c2 _ (aO _))
   exists eo guh (eK (by lia)) rfl ?_;have Xi:=Xh.set MA rp2 new ii;have kpi:=kph.upd (o:=.lst (us.set ii (.ref r2))) (q:=m) (.inr rfl);have nli:cb K (upd Hh m (.lst (us.set ii (.ref r2)))) ((0 - z:Int):Rat) (.ref lt):=(nl.same sfh).updL guh;have nbi:cb K (upd Hh m (.lst (us.set ii (.ref r2)))) ((z:Int):Rat) (.ref bt):=(nb.same sfh).updL guh;generalize upd Hh m (.lst (us.set ii (.ref r2)))=Hi at Xi kpi nli nbi ⊢;generalize us.set ii (.ref r2)=um at Xi;clear nb nl Xf kpf gu ru e1 e2 g1 p1 g2 p2 R1 R2 Xh kph guh rp2 sg sh sfh new;have gm:=Xi.gm;have lm:=Xi.lm;have gl:=Xi.gl;have nd:=Xi.nd;obtain ⟨nd1,nd2,nd3⟩:=di.mp nd;exists jK gm gl (aN (bc (by lia))) λcl Hj sj nj gj=>?_
   have kpj:=kpi.same sj
   have rows:∀x∈um++vs,∀q,x=V.ref q->q≠cl:=λx hx q e y=>by
    obtain ⟨q',zs,_,e',_,g',_⟩:=(Xi.row x (au.mpr (.inl hx))).at;rw[e] at e';cases e';rw[y,nj] at g';cases g'
   have Xj:=(Xi.same sj).weak (C':=λx y=>(x∈ws->Fr (μ x) W y)/\(x∈(um++vs).drop 0->Fr (μ x) (3*W) y)/\Fr (μ x) (9*W) y) λx _ y h=>⟨h.1,λ_=>h.2,h.2.mono (by lia)⟩
   have lj:cb K Hj ((0 - z:Int):Rat) (.ref lt):=nli.same sj;have bj:cb K Hj ((z:Int):Rat) (.ref bt):=nbi.same sj;clear Xi kpi nli nbi;refine ⟨_,rfl,⟨_,bO.of gj⟩,?_⟩;refine jD (K:=K) (a:=cl) (xs:=um++vs) (λs σ' H'=>∃x6:Option V,σ'=[some (.ref b),some (.ref m),some (.ref p),some (.ref l),some (.int n),some (.int t),some (.int ii),some (.int jj),some (.ref bt),some (.ref lt),x6]/\iJ K A H' n (λx y=>(x∈ws->Fr (μ x) W y)/\(x∈(um++vs).drop s->Fr (μ x) (3*W) y)/\Fr (μ x) (9*W) y) m p l b q0 um ws vs/\gs A b m H H'/\H' cl=some (.lst (um++vs))/\cb K H' ((0 - z:Int):Rat) (.ref lt)/\cb K H' ((z:Int):Rat) (.ref bt)) ⟨_,rfl,Xj,kpj,gj,lj,bj⟩ (λs σ' H' _ ⟨_,_,_,_,e,_⟩=>bO.of e) ?_ ?_
   ·rintro s x σ' Hk hx ⟨y6,rfl,Xk,kpk,gk,lk,bk⟩;have hs:s < (um++vs).length:=(aB.mp hx).1;have mx:=ax hx
    have xd:x∈(um++vs).drop s:=by
     rw[dU hs,(aB.mp hx).2];exact .head _
    have xd2:x∉(um++vs).drop (s+1):=λz=>by
     have:=nd1.sublist (List.drop_sublist s _);rw[dU hs,dP,(aB.mp hx).2] at this;exact this.1 z
    have xw:x∉ws:=λz=>nd3 x mx x z rfl
    have rx:=Xk.row x (au.mpr (.inl mx));obtain ⟨q,zs,qs,rfl,aq,gq,lq,pq,lq2,cq⟩:=rx.at;have qcl:=rows _ mx q rfl;obtain ⟨vj,ej,nj'⟩:=Dq pq (j:=jj) (by lia);obtain ⟨vi,ei,ni'⟩:=Dq pq (j:=ii) (by lia);have cj:=(cq _ (getD_mem (xs:=qs) (i:=jj) (by lia))).2.1 xd;have ci:=(cq _ (getD_mem (xs:=qs) (i:=ii) (by lia))).2.1 xd;exists cm (bO.of gq) ej ?_;exists cm (bO.of gq) ei ?_;exists ⟨_,_,_,_,rfl,lk,ni',A9 (by lia),sz9 (by lia) ci,λr3 Hl sl n3=>?_⟩;exists ⟨_,_,_,_,rfl,nj'.same sl,n3,sz9 (by lia) cj,xI (by lia) ci (M0 _) (M1 _) (by lia),λr4 Hm sm n4=>?_⟩;have slm:=sl.trans sm;exists eo (slm _ _ gq) (eK (by lia)) rfl ?_;refine ⟨_,rfl,?_,(kpk.same slm).upd (.inl aq),by rw[br qcl.symm];exact slm _ _ gk,(lk.same slm).updL (slm _ _ gq),(bk.same slm).updL (slm _ _ gq)⟩;refine ((Xk.same slm).weak λx' _ y h=>⟨h.1,λz=>h.2.1 ?_,h.2.2⟩).put MA aq (slm _ _ gq) n4 ⟨λz=>absurd z xw,λz=>absurd z xd2,?_⟩ jj
    ·rw[dU hs];exact .tail _ z
    ·exact (Cc (by lia) cj ci).mono (by lia)
   ·rintro σ' Hk ⟨y6,rfl,Xk,kpk,gk,lk,bk⟩;have gp:=Xk.gp;have Xk2:=Xk.weak (C':=λx y=>(x∈ws.drop 0->Fr (μ x) W y)/\Fr (μ x) (9*W) y) λx _ y h=>⟨λz=>h.1 (by simpa using z),h.2.2⟩
    clear Xk;exists ⟨⟨_,bO.of gp⟩,?_⟩;refine jD (K:=K) (a:=p) (xs:=ws) (λs σ' H'=>∃x6:Option V,σ'=[some (.ref b),some (.ref m),some (.ref p),some (.ref l),some (.int n),some (.int t),some (.int ii),some (.int jj),some (.ref bt),some (.ref lt),x6]/\iJ K A H' n (λx y=>(x∈ws.drop s->Fr (μ x) W y)/\Fr (μ x) (9*W) y) m p l b q0 um ws vs/\gs A b m H H'/\cb K H' ((z:Int):Rat) (.ref bt)) ⟨_,rfl,Xk2,kpk,bk⟩ (λs σ' H' _ ⟨_,_,X,_⟩=>bO.of X.gp) ?_ ?_
    ·rintro s x σ' Hl hx ⟨w6,rfl,Xl,kpl,bl⟩;have hs:s < ws.length:=(aB.mp hx).1;have mx:=ax hx
     have xd:x∈ws.drop s:=by
      rw[dU hs,(aB.mp hx).2];exact .head _
     have xd2:x∉ws.drop (s+1):=λz=>by
      have:=nd2.sublist (List.drop_sublist s _);rw[dU hs,dP,(aB.mp hx).2] at this;exact this.1 z
     have rx:=Xl.row x (au.mpr (.inr mx));obtain ⟨q,zs,qs,rfl,aq,gq,lq,pq,lq2,cq⟩:=rx.at;obtain ⟨vj,ej,nj'⟩:=Dq pq (j:=jj) (by lia);obtain ⟨vi,ei,ni'⟩:=Dq pq (j:=ii) (by lia);have cj:=(cq _ (getD_mem (xs:=qs) (i:=jj) (by lia))).1 xd;have ci:=(cq _ (getD_mem (xs:=qs) (i:=ii) (by lia))).1 xd;exists cm (bO.of gq) ei ?_;exists cm (bO.of gq) ej ?_;exists ⟨_,_,_,_,rfl,bl,nj',A9 (by lia),sz9 (by lia) cj,λr3 Hm sm n3=>?_⟩;exists ⟨_,_,_,_,rfl,ni'.same sm,n3,sz9 (by lia) ci,xI (by lia) cj (M0 _) (M1 _) (by lia),λr4 Hn sn n4=>?_⟩;have smn:=sm.trans sn;exists eo (smn _ _ gq) (eK (by lia)) rfl ?_;refine ⟨_,rfl,?_,(kpl.same smn).upd (.inl aq),(bl.same smn).updL (smn _ _ gq)⟩;refine ((Xl.same smn).weak λx' _ y h=>⟨λz=>h.1 ?_,h.2⟩).put MA aq (smn _ _ gq) n4 ⟨λz=>absurd z xd2,?_⟩ ii
     ·rw[dU hs];exact .tail _ z
     ·exact (Cc (by lia) ci cj).mono (by lia)
    ·rintro σ' Hl ⟨w6,rfl,Xl,kpl,bl⟩;refine ⟨_,_,_,_,_,_,um,rfl,Xl.weak λ_ _ y h=>h.2.mono ?_,kpl⟩;rw[<- eW,gH,cv (9^t) 9,cx];exact ak _
  ·rintro σ' H' ⟨x1,x2,x3,x4,x5,x6,us',rfl,X,kp⟩;exists b6 λr H2' s' g'=>?_
   exact done r us' H2' _ (by lia) g' (X.same s') (kp.same s')
theorem dh:aX ["_law_bag_here","_law_one","_law_other","_law_ahead","_law_behind","_law_found","_law_k"] ["_law_bag_here"] (aK iT):=by walk_at "d"
theorem tF (T:Txt K mg Z):cE P w K mg base fw 5 Z.mS Z.mN ["_law_bag_here"] (JT K):=by
 refine T.iB.F.ok dh (λvs H Q E h=>?_) (λcdv A outer s H vs Q E hr h=>?_)
 ·obtain ⟨b,rfl,_⟩:=h;rfl
 ·obtain ⟨b,rfl,hB,k⟩:=h
  refine ⟨_,(aw (a8 (i:=1) dh.nd rfl (Or.inl rfl) (cL (nL T) hr T.iC (ae (pv 0) (ae ar aj))))
   (aw (a8 (i:=2) dh.nd rfl (Or.inl rfl) (cL (nL T) hr T.iC (ae (pv 0) (ae (bI fM ar (cL (bM T) hr T.bo (ae (pv 0) (ae ar aj)))) aj))))
   (aw (a8 (i:=3) dh.nd rfl (Or.inr rfl) (bI Ed (eF (ae (cO (ae ar (ae ar aj))) aj)) ar))
   (aw (a8 (i:=4) dh.nd rfl (Or.inr rfl) (bI Ed (eF (ae (cO (ae ar (ae ar aj))) aj)) (bL be (by rfl) T.len aU (ae (aZ bU (pv 2) ar) aj))))
   (aw (a8 (i:=5) dh.nd rfl (Or.inl rfl) (eF aj))
   (aw (eE PassesOwn.never rfl (b7 rfl T.range (ae ar aj)) (aM (i:=6) dh.nd)
    (aA (ji (tx cM dm dk iZ (pv 5) (ae (bI jN (bW ["_law_row_here"] ["_law_behind"] [4] (ck (aZ bU (pv 1) (pv 6))) (λ_=>(aM (i:=0) (show ND9 ["_law_row_here","_law_behind"] by decide +kernel))) (λ_=>bZ) (λ_=>(bI jN (pv 0) (pv 1)))) (bW ["_law_row_here"] ["_law_ahead"] [3] (ck (aZ bU (pv 2) (pv 6))) (λ_=>(aM (i:=0) (show ND9 ["_law_row_here","_law_ahead"] by decide +kernel))) (λ_=>bZ) (λ_=>(bI jN (pv 1) (pv 0))))) aj)))))
   (aA (aY (cL (qG T) hr T.jo (ae (pv 0) (ae (aZ bS (pv 5) ar) (ae (aZ bS (pv 5) ar) (ae (aZ bS (pv 5) ar) aj))))))))))))),?_⟩
  refine aP (σ:=[some (.ref b),none,none,none,none,none,none]) rfl ?_;obtain ⟨q0,I0,xq,gq0⟩:=hB.inner;exists ⟨b,3,rfl,hB,by decide,by decide,λr1 mv1 pt1 lk1 H1 P1 lm1 lp1 ll1 D1 fm1 fp1 fl1 B1 u1=>?_⟩;exists ⟨b,3,rfl,B1,by decide,by decide,λv H2 v0 v1 B2 u2=>?_⟩;obtain ⟨v,rfl⟩:=gC v0;have u02:=u1.trans u2;walk_at "w";rw[show ((3:Int)+(v:Int))=((3+v:Nat):Int) by lia];refine ⟨b,3+v,rfl,B2,by lia,by lia,λr2 mv2 pt2 lk2 H3 P2 lm2 lp2 ll2 D2 fm2 fp2 fl2 B3 u3=>?_⟩;have u03:=u02.trans u3;have P1c:=(P1.upto (u2.trans u3) B1 hB.at);have P2c:fD K H H3 r2 mv2 pt2 lk2:=P2.weak λq h=>u02.none B2 h
  exists b6 λt0 H4 s4 g4=>?_
  exists dB λa1 H5 s5 n5 g5=>?_
  exists D9 (k:=3) g5 (by decide) λah H6 s6 n6 g6=>?_
  have s36:=(s4.trans s5).trans s6;obtain ⟨m1,p1,l1,gt1,m1n,p1n,l1n,Gm1,Gp1,Gl1⟩:=P1c.same s36;obtain ⟨m2,p2,l2,gt2,m2n,p2n,l2n,Gm2,Gp2,Gl2⟩:=P2c.same s36;have N0:cb K H6 0 (V.ref t0):=cb.mk (q:=0) ((s5.trans s6) _ _ g4) rfl;exists b6 λt1 H7 s7 g7=>?_
  exists dB λa2 H8 s8 n8' g8=>?_
  have s68:=s7.trans s8;have gt2':=s68 _ _ gt2;obtain ⟨um2,gm2,qm2,_⟩:=id (Gm2.same s68);have lum2:=qm2.length;exists ⟨_,_,rfl,.inl (bO.of gm2),?_⟩;rw[<- lum2,lm2];exists D9 (k:=3+v) g8 (by lia) λbh H9 s9 n9 g9=>?_
  have s69:=s68.trans s9;have s39:=s36.trans s69;have N1:cb K H9 0 (V.ref t1):=cb.mk (q:=0) ((s8.trans s9) _ _ g7) rfl;have u09:=u03.same s39;have B9:=B3.same s39;have g6':=s69 _ _ g6;have N0':=N0.same s69;exists dB λfd H10 s10 n10 g10=>?_
  have X1:∀i:Nat,i < 3->∃q1 R1 q2 R2,[V.ref m1,V.ref p1,V.ref l1][i]?=some (V.ref q1)/\bB K H H9 q1 R1/\(∀xs∈R1,xs.length=3/\∀y∈xs,Fr 1 1 y)/\[V.ref m2,V.ref p2,V.ref l2][i]?=some (V.ref q2)/\bB K H H9 q2 R2/\(∀xs∈R2,xs.length=3+v/\∀y∈xs,Fr 1 1 y)/\R1.length<=100/\R2.length<=100/\[6+v,2,2][i]?=some (R1.length+R2.length):=λi hi=>by
   rcases (show i=0\/i=1\/i=2 by lia) with rfl | rfl | rfl
   ·exact ⟨m1,mv1,m2,mv2,rfl,Gm1.same s69,λxs hx=>⟨by rw[D1.mw xs hx,lm1],fm1 xs hx⟩,rfl,Gm2.same s69,λxs hx=>⟨by rw[D2.mw xs hx,lm2],fm2 xs hx⟩,by lia,by lia,by rw[lm1,lm2,show 3+(3+v)=6+v by lia];rfl⟩
   ·exact ⟨p1,pt1,p2,pt2,rfl,Gp1.same s69,λxs hx=>⟨by rw[D1.pw xs hx,lm1],fp1 xs hx⟩,rfl,Gp2.same s69,λxs hx=>⟨by rw[D2.pw xs hx,lm2],fp2 xs hx⟩,by lia,by lia,by rw[lp1,lp2];rfl⟩
   ·exact ⟨l1,lk1,l2,lk2,rfl,Gl1.same s69,λxs hx=>⟨by rw[D1.lw xs hx,lm1],fl1 xs hx⟩,rfl,Gl2.same s69,λxs hx=>⟨by rw[D2.lw xs hx,lm2],fl2 xs hx⟩,by lia,by lia,by rw[ll1,ll2];rfl⟩
  exists ⟨by decide,by decide,?_⟩;refine eP (n:=3) (λi σ' H'=>aF H9 H'/\∃x6 L,σ'=[some (.ref b),some (.ref r1),some (.ref r2),some (.ref ah),some (.ref bh),some (.ref fd),x6]/\O1 K H9 H' (6+v) fd L/\L.length=i/\∀(j:Nat) (e:Addr×List V),L[j]?=some e->[6+v,2,2][j]?=some e.2.length) ⟨s10,none,[],rfl,⟨g10,n10,(λ_ z=>nomatch z),k9,(λ_ z=>nomatch z),k9⟩,rfl,λj e h=>by simp at h⟩ ?_ ?_
  ·rintro i σ' H' hi ⟨s',x6,L,rfl,T,lL,hL⟩;obtain ⟨q1,R1,q2,R2,e1,G1,w1,e2,G2,w2,b1,b2,hlen⟩:=X1 i hi;have gt1':=s' _ _ (s69 _ _ gt1);have gt2'':=s' _ _ (s69 _ _ gt2);obtain ⟨ux1,gx1,qx1,_⟩:=id (G1.same s');have gb:=s' _ _ g9;have ga:=s' _ _ g6';exists ⟨.inl ⟨rfl,_,bO.of T.gf⟩,?_⟩;exists Eb (kD.of gt1') (dS e1) ?_;exists ⟨⟨_,bO.of gx1⟩,?_⟩;refine Az (K:=K) (F:=cI K H) (λH'' c x=>∃q,x=V.ref q/\dC K H'' q c) (λr=>r++List.replicate (3+v) 0) gx1 qx1 (by lia) (λa b=>a.same b) (λa b=>by obtain ⟨q,e,r⟩:=a;exact ⟨q,e,r.same b⟩) (λa=>by obtain ⟨q,e,_,gg,_⟩:=a;exact ⟨q,e,by rw[gg];exact λz=>nomatch z⟩) ?_ ?_
   ·rintro j ns x Hi NY NN en si ⟨q,rfl,_,zs,gz,qz⟩ k1;have ws:=(w1 ns (ax en)).1;have lz:=qz.length;exists jK gz (si _ _ gb) (aN (bc (by rw[dj];lia))) λc Hj sj nj gj=>?_
    exact k1 _ _ sj ⟨c,rfl,_,gj,bX (Paired.imp' (λ_ _ z=>z.same sj) qz) (nG (((N1.same s').same si).same sj) _)⟩ ⟨c,rfl,nj⟩
   rintro ys1 Ha c1 hc1 sa ga1 nd1 ne1 pr1;obtain ⟨ux2,gx2,qx2,_⟩:=id ((G2.same s').same sa);have gt2a:=sa _ _ gt2'';exists Eb (kD.of gt2a) (dS e2) ?_;exists ⟨⟨_,bO.of gx2⟩,?_⟩;refine Az (K:=K) (F:=cI K H) (λH'' c x=>∃q,x=V.ref q/\dC K H'' q c) (λr=>List.replicate 3 0++r) gx2 qx2 (by lia) (λa b=>a.same b) (λa b=>by obtain ⟨q,e,r⟩:=a;exact ⟨q,e,r.same b⟩) (λa=>by obtain ⟨q,e,_,gg,_⟩:=a;exact ⟨q,e,by rw[gg];exact λz=>nomatch z⟩) ?_ ?_
   ·rintro j ns x Hi NY NN en si ⟨q,rfl,_,zs,gz,qz⟩ k1;have ws:=(w2 ns (ax en)).1;have lz:=qz.length;exists jK ((sa.trans si) _ _ ga) gz (aN (bc (by rw[dj];lia))) λc Hj sj nj gj=>?_
    exact k1 _ _ sj ⟨c,rfl,_,gj,bX (nG ((((N0'.same s').same sa).same si).same sj) _) (Paired.imp' (λ_ _ z=>z.same sj) qz)⟩ ⟨c,rfl,nj⟩
   rintro ys2 Hb c2 hc2 sb gb2 nd2 ne2 pr2;have sab:=sa.trans sb;have ly1:=pr1.length;have ly2:=pr2.length;rw[ag] at ly1 ly2;exists jK (sb _ _ ga1) gb2 (aN (bc (by lia))) λqn Hc sc nc gc=>?_
   have sac:=sab.trans sc;have gfc:=sac _ _ T.gf;exists iV gfc (bc (by rw[ag];lia)) ?_
   have rP:∀{c:List Rat} {x:V},(∃q,x=V.ref q/\dC K Hb q c)->(∃q,x=V.ref q/\H' q=none)->c.length=6+v->(∀y∈c,Fr 1 1 y)->eT K (λz=>H' z=none/\z≠qn) Hc (6+v) (Fr 1 1) x:=λ⟨q,e,r⟩ ⟨q',e',nq⟩ hl hf=>by
    rw[e] at e';cases e';exact ⟨q,_,e,⟨nq,λz=>by obtain ⟨_,gg,_⟩:=r;rw[z,nc] at gg;cases gg⟩,r.same sc,hl,hf⟩
   refine ⟨(s'.trans sac).after n10,some (.int i),L++[(qn,ys1++ys2)],rfl,T.snoc s' sac (sab.none nc) gc ?_ (λx hx=>?_),by rw[av,bf,lL],λj e he=>?_⟩
   ·refine di.mpr ⟨nd1,nd2,λx hx y hy z=>?_⟩;obtain ⟨_,_,q,e,_,gg,_⟩:=cP pr1 hx;obtain ⟨q',e',nq,_⟩:=ne2 y hy;rw[<- z,e] at e';cases e';rw[nq] at gg;cases gg
   ·rcases au.mp hx with hx | hx
    ·obtain ⟨c,mc,q,e,r⟩:=cP pr1 hx;obtain ⟨ns,mn,rfl⟩:=ay.mp mc;obtain ⟨q',e',nq,_⟩:=ne1 x hx;refine rP ⟨q,e,r.same sb⟩ ⟨q',e',nq⟩ (by rw[av,dj,(w1 ns mn).1];lia) λy hy=>?_
     rcases au.mp hy with hy | hy
     ·exact (w1 ns mn).2 y hy
     ·rw[(List.mem_replicate.mp hy).2];exact Fr.zero
    ·obtain ⟨c,mc,q,e,r⟩:=cP pr2 hx;obtain ⟨ns,mn,rfl⟩:=ay.mp mc;obtain ⟨q',e',nq,_⟩:=ne2 x hx;refine rP ⟨q,e,r⟩ ⟨q',e',sa.none nq⟩ (by rw[av,dj,(w2 ns mn).1];lia) λy hy=>?_
     rcases au.mp hy with hy | hy
     ·rw[(List.mem_replicate.mp hy).2];exact Fr.zero
     ·exact (w2 ns mn).2 y hy
   ·rcases bP j L.length with z | z
    ·rw[cD z] at he;exact hL j e he
    ·have hj:=(aB.mp he).1;rw[av,bf] at hj;have ej:j=L.length:=by lia
     subst ej;rw[bT (ak _),kZ] at he;cases he;rw[lL,hlen,av,ly1,ly2]
  ·rintro σ' H' ⟨s',x6,L,rfl,T,lL,hL⟩
   obtain ⟨⟨m,us⟩,⟨p,ws⟩,⟨l,vs⟩,rfl⟩:∃a b c,L=[a,b,c]:=by
    rcases L with _ | ⟨a,_ | ⟨b,_ | ⟨c,_ | ⟨d,L⟩⟩⟩⟩
    ·cases lL
    ·cases lL
    ·cases lL
    ·exact ⟨a,b,c,rfl⟩
    ·simp at lL
   have lu:us.length=6+v:=by have:=hL 0 _ rfl;simpa using this.symm
   have lw:ws.length=2:=by have:=hL 1 _ rfl;simpa using this.symm
   have lv:vs.length=2:=by have:=hL 2 _ rfl;simpa using this.symm
   have gf:=T.gf;obtain ⟨mn,mf,gm⟩:=T.ls (m,us) (by simp);obtain ⟨pn,pf,gp⟩:=T.ls (p,ws) (by simp);obtain ⟨ln,lf,gl⟩:=T.ls (l,vs) (by simp);have nd:=T.nd;have rw':=T.rows;have rd:=T.rd;clear T hL;have gf:H' fd=some (.lst [.ref m,.ref p,.ref l]):=gf;have nd:[m,p,l].Nodup:=nd;have rd:(us++(ws++(vs++[]))).Nodup:=rd;have u0':=u09.same s';have B':=B9.same s';have hm0:H m=none:=u09.none B9 mn;have hp0:H p=none:=u09.none B9 pn;have hl0:H l=none:=u09.none B9 ln;obtain ⟨A,eA⟩:∃A:Addr->Prop,A=λq=>H q=none/\q≠m/\q≠p/\q≠l:=⟨_,rfl⟩
   have mkA:∀{q},H q=none->q≠m->q≠p->q≠l->A q:=λh1 h2 h3 h4=>by rw[eA];exact ⟨h1,h2,h3,h4⟩
   have unA:∀{q},A q->H q=none/\q≠m/\q≠p/\q≠l:=λh=>by rw[eA] at h;exact h
   have nb:∀{q},H q=none->q≠b:=λh z=>hB.at (by rw[<- z];exact h)
   have MA:DK A m p l b q0:=⟨λz=>(unA z).2.1 rfl,λz=>(unA z).2.2.1 rfl,λz=>(unA z).2.2.2 rfl,λz=>hB.at (unA z).1,(λz=>by have z1:=(unA z).1;rw[gq0] at z1;cases z1),nb hm0,nb hp0,nb hl0,by intro z;subst z;simp at nd,by intro z;subst z;simp at nd,λz=>by rw[<- z,hm0] at gq0;cases gq0⟩;have X:iJ K A H' (6+v) (λ_=>Fr 1 1) m p l b q0 us ws vs:=⟨B',u0'.2 _ I0,gm,gp,gl,lu,λx hx=>?_,?_⟩
   ·exists ⟨b,m,p,l,q0,6+v,1,λ_=>1,A,us,ws,vs,rfl,MA,X,by lia,by lia,by lia,λ_=>Nat.zero_lt_one,λ_=>bw,⟨1,λ_ _ _=>rfl⟩,by decide,λq hq=>?_,λr us' H'' g Y kp=>?_⟩
    ·exact mkA (u0'.none B' hq) (λz=>by rw[z,gm] at hq;cases hq) (λz=>by rw[z,gp] at hq;cases hq) (λz=>by rw[z,gl] at hq;cases hq)
    ·obtain ⟨mv,Gm,lmv,hmv⟩:=je (H0:=H) (n:=6+v) (C:=Fr 1 (9^3*1)) (m:=6+v) ⟨us',Y.gm,Y.lm,MA.am,λx hx=>Y.row x (by simp [hx])⟩ λq h=>(unA h).1
     obtain ⟨pt,Gp,lpt,hpt⟩:=je (H0:=H) (n:=6+v) (C:=Fr 1 (9^3*1)) (m:=2) ⟨ws,Y.gp,lw,MA.ap,λx hx=>Y.row x (by simp [hx])⟩ λq h=>(unA h).1
     obtain ⟨lk,Gl,llk,hlk⟩:=je (H0:=H) (n:=6+v) (C:=Fr 1 (9^3*1)) (m:=2) ⟨vs,Y.gl,lv,MA.al,λx hx=>Y.row x (by simp [hx])⟩ λq h=>(unA h).1
     refine k r mv pt lk H'' ⟨m,p,l,g,hm0,hp0,hl0,Gm,Gp,Gl⟩ (by lia) ⟨by lia,by lia,by lia,λxs hx=>by rw[(hmv xs hx).1,lmv],λxs hx=>by rw[(hpt xs hx).1,lmv],λxs hx=>by rw[(hlk xs hx).1,lmv]⟩ (λxs hx=>(hmv xs hx).2) (λxs hx=>(hpt xs hx).2) (λxs hx=>(hlk xs hx).2) Y.bag ⟨λc' u e n1=>kp c' u (u0'.1 _ _ e n1) n1 (λz=>by have:=(unA z).1;rw[e] at this;cases this) (λz=>by rw[z,hm0] at e;cases e),λq h=>by rw[<- Inner.inj I0 h];exact Y.inn⟩
   ·have hx:∃e∈[(m,us),(p,ws),(l,vs)],x∈e.2:=by
     rcases au.mp hx with hx | hx
     ·rcases au.mp hx with hx | hx
      ·exact ⟨(m,us),by simp,hx⟩
      ·exact ⟨(l,vs),by simp,hx⟩
     ·exact ⟨(p,ws),by simp,hx⟩
    obtain ⟨e,he,hx⟩:=hx;refine (rw' e he x hx).weak (λq hq=>?_) (λ_ w=>w);obtain ⟨⟨h1,_⟩,h2⟩:=hq;have h2:q∉[m,p,l]:=h2;simp only[aE,aV,or_false,not_or] at h2;exact mkA (u09.none B9 h1) h2.1 h2.2.1 h2.2.2
   ·rw[oQ] at rd
    have e:(us++vs++ws).Perm (us++(ws++vs)):=by
     rw[b8];exact List.Perm.append_left _ List.perm_append_comm
    exact e.nodup_iff.mpr rd
theorem oX:aX ["_law_bag_here","_law_wide","_law_way"] ["_law_bag_here","_law_wide"] (aK lT):=by walk_at "d"
theorem yA (T:Txt K mg Z):cE P w K mg base fw 2 Z.rg Z.qP ["_law_bag_here","_law_wide"] (xP K):=by
 refine T.kx.F.ok oX (λvs H Q E h=>?_) (λcdv A outer s H vs Q E hr h=>?_)
 ·obtain ⟨b,w,rfl,_⟩:=h;rfl
 ·obtain ⟨b,w,rfl,hB,w0,w1,k⟩:=h
  refine ⟨_,(aw (a8 (i:=2) oX.nd rfl (Or.inl rfl) (cL (bM T) hr T.bo (ae (pv 0) (ae ar aj))))
   (aw (cZ (bA qC (pv 2) ar (bH _)) (aA (aY (cO (ae ar (ae ar aj))))) bY)
   (aw (cZ (bA qC (pv 2) ar (bH _)) (aA (aY (cO (ae (bI gM (cL (bM T) hr T.bo (ae (pv 0) (ae ar aj))) ar) (ae ar aj))))) bY)
   (aw (cZ (bA eY (pv 2) ar (bH _)) (aA (aY (cL (fg T) hr T.dX (ae (bI gM (cL (bM T) hr T.bo (ae (pv 0) (ae ar aj))) ar) (ae (bI fM ar (cL (bM T) hr T.bo (ae (pv 0) (ae ar aj)))) aj))))) bY)
   (aA (aY (cL (fg T) hr T.dX (ae (bI gM (cL (bM T) hr T.bo (ae (pv 0) (ae (bI fM (bI cQ ar (pv 1)) ar) aj))) (pv 1)) (ae (bI fM ar (cL (bM T) hr T.bo (ae (pv 0) (ae (pv 1) aj)))) aj))))))))),?_⟩
  refine aP (σ:=[some (.ref b),some (.int w),none]) rfl ?_;exists ⟨b,8,rfl,hB,by decide,by decide,λv H1 v0 v1 B1 u1=>?_⟩;exists gQ (λh0=>?_) (λh0=>?_)
  ·exists b6 λr H2 s2 g2=>?_
   exact k r 0 _ ⟨bu _,by show 1<=_;lia⟩ (cb.mk g2 rfl) (B1.same s2) (u1.same s2)
  exists gQ (λh1=>?_) (λh1=>?_)
  ·exists ⟨b,7,rfl,B1,by decide,by decide,λa H2 a0 a1 B2 u2=>?_⟩;exists b6 λr H3 s3 g3=>?_
   exact k r ((a - 3:Int):Rat) _ ⟨by show (a - 3).natAbs<=_;lia,by show 1<=_;lia⟩ (cb.mk g3 rfl) (B2.same s3) ((u1.trans u2).same s3)
  exists gQ (λh2=>?_) (λh2=>?_)
  ·exists ⟨b,13,rfl,B1,by decide,by decide,λa H2 a0 a1 B2 u2=>?_⟩;exists ⟨b,6,rfl,B2,by decide,by decide,λc H3 c0 c1 B3 u3=>?_⟩;exists ⟨_,_,rfl,by lia,(HG (by lia)).mono (by decide),λr H4 s4 g4=>?_⟩;obtain ⟨q,e,d,_⟩:=IF (t:=a - 6) (b:=1+c) (W:=max w 6) (by lia) (by lia) (by lia);exact k r q _ d (cb.mk g4 e) (B3.same s4) (((u1.trans u2).trans u3).same s4)
  exists ⟨b,_,rfl,B1,by lia,by lia,λa H2 a0 a1 B2 u2=>?_⟩;exists ⟨b,_,rfl,B2,by lia,by lia,λc H3 c0 c1 B3 u3=>?_⟩;exists ⟨_,_,rfl,by lia,(HG (by lia)).mono (by decide),λr H4 s4 g4=>?_⟩;obtain ⟨q,e,d,_⟩:=IF (t:=a - w) (b:=1+c) (W:=max w 6) (by lia) (by lia) (by lia);exact k r q _ d (cb.mk g4 e) (B3.same s4) (((u1.trans u2).trans u3).same s4)
theorem C2:aX ["_law_bag_here","_law_many","_law_wide"] ["_law_bag_here","_law_many","_law_wide"] (aK rS):=by walk_at "d"
theorem vS (T:Txt K mg Z):cE P w K mg base fw 3 Z.zi Z.yW ["_law_bag_here","_law_many","_law_wide"] (CV K):=by
 refine T.jC.F.ok C2 (λvs H Q E h=>?_) (λcdv A outer s H vs Q E hr h=>?_)
 ·obtain ⟨b,m,w,rfl,_⟩:=h;rfl
 ·obtain ⟨b,m,w,rfl,hB,hm,w0,w1,k⟩:=h;refine ⟨_,(aA (aY (bW ["_law_k"] ["_law_bag_here","_law_wide"] [0,2] (b7 rfl T.range (ae (pv 1) aj)) (λ_=>(aM (i:=0) (show ND9 ["_law_k","_law_bag_here","_law_wide"] by decide +kernel))) (λ_=>bZ) (λ_=>(cL (yA T) hr T.kx (ae (pv 1) (ae (pv 2) aj))))))),?_⟩;refine aP (σ:=[some (.ref b),some (.int m),some (.int w)]) rfl ?_;exists ⟨by lia,by lia,?_⟩;refine AB (n:=m) (cb K) (Dr (max w 6)) hB hm (λa u B=>a.upto u B) ?_ ?_
  ·rintro i H' NY NN hi u B k1;exists ⟨b,w,rfl,B,w0,w1,λr x H2 hx h2 B2 u2=>k1 _ x _ u2 B2 hx h2⟩
  ·rintro ys cs H' p hp u B g lc hc pr nx;exact k p cs H' hp ⟨ys,g,pr⟩ lc hc B u
theorem ie:aX ["_law_bag_here","_law_n","_law_way","_law_first","_law_wide","_law_move_here","_law_i","_law_row_here","_law_j"] ["_law_bag_here","_law_n","_law_way","_law_first","_law_wide"] (aK pA):=by walk_at "d"
theorem BM (T:Txt K mg Z):cE P w K mg base fw 4 Z.wO Z.wa ["_law_bag_here","_law_n","_law_way","_law_first","_law_wide"] (CP K):=by
 refine T.nZ.F.ok ie (λvs H Q E h=>?_) (λcdv A outer s H vs Q E hr h=>?_)
 ·obtain ⟨b,n,w,way,first,rfl,_⟩:=h;rfl
 ·obtain ⟨b,n,w,way,first,rfl,hB,n8,w0,w1,k⟩:=h
  refine ⟨_,(aw (a8 (i:=5) ie.nd rfl (Or.inl rfl) (eF aj))
   (aw (eE PassesOwn.never rfl (b7 rfl T.range (ae (pv 1) aj)) (aM (i:=6) ie.nd)
    (aw (a8 (i:=7) ie.nd rfl (Or.inl rfl) (cL (vS T) hr T.jC (ae (pv 0) (ae (pv 1) (ae (pv 4) aj)))))
   (aw (eE PassesOwn.never rfl (b7 rfl T.range (ae (pv 1) aj)) (aM (i:=8) ie.nd)
    (gV (cZ (PW.pt (jL (bA eY (pv 2) ar (bH _)) (kM (bA yu (cL (bM T) hr T.bo (ae (pv 0) (ae ar aj))) ar (bH _))))) (aA (eV (cO (ae ar (ae ar aj))) (fB (pv 7) (pv 8) set_list))) bY)
   (gV (cZ (PW.pt (jL (bA eY (pv 2) ar (bH _)) (kM (bA qC (bI fM (pv 6) ar) (pv 1) (bH _))))) (aA (eV (cO (ae (eX j9 (by rfl) T.int PyProof.Rows.boot_int (ae (gG eY (pv 8) (bI fM (pv 6) ar) (bH _)) aj)) (ae ar aj))) (fB (pv 7) (pv 8) set_list))) bY)
   (gV (cZ (PW.pt (kL (PW.pt (jL (bA eY (pv 2) ar (bH _)) (jL (bA Ae (pv 6) (pv 3) (bH _)) (kM (bA qC (pv 8) (pv 3) (bH _)))))) (iW (PW.pt (jL (bA eY (pv 2) ar (bH _)) (jL (bA qC (pv 6) (pv 3) (bH _)) (kM (bA Ae (pv 8) (pv 3) (bH _))))))))) (aA (eV (cO (ae ar (ae ar aj))) (fB (pv 7) (pv 8) set_list))) bY)
   (aA (cZ (bA eY (pv 2) ar (bH _)) (aA (eV (cO (ae (bI cQ (aZ bS (eF (ae ar (ae ar (ae (yp rF ar) (ae ar aj))))) (bI l7 (pv 3) ar)) (eX j9 (by rfl) T.int PyProof.Rows.boot_int (ae (gG eY (pv 6) (pv 8) (bH _)) aj))) (ae ar aj))) (fB (pv 7) (pv 8) set_list))) bY))))))
   (aA (ji (tx cM dm dk iZ (pv 5) (ae (pv 7) aj)))))))
   (aA (aY (pv 5))))),?_⟩
  refine aP (σ:=[some (.ref b),some (.int n),some (.int way),some (.int first),some (.int w),none,none,none,none]) rfl ?_;have W1:1<=max w 6:=by lia
  exists dB λr H1 s1 n1 g1=>?_
  have rb:r≠b:=λz=>hB.at (by rw[<- z];exact n1)
  obtain ⟨q0,I0,xs0,gq0⟩:=hB.inner;have I1:Inner H1 b q0:=(s1.upto (p:=b)).2 _ I0;obtain ⟨A,eA⟩:∃A:Addr->Prop,A=λq=>H q=none/\q≠r:=⟨_,rfl⟩
  have nb:¬A b:=by rw[eA];exact λz=>hB.at z.1
  have nr:¬A r:=by rw[eA];exact λz=>z.2 rfl
  have nq:¬A q0:=by rw[eA];exact λz=>by have z1:=z.1;rw[gq0] at z1;cases z1
  have rq:r≠q0:=λz=>by rw[<- z,n1] at gq0;cases gq0
  exists ⟨by lia,by lia,?_⟩;refine eP (n:=n) (λi σ' H'=>∃(x1 x2 x3:Option V) (us:List V),σ'=[some (.ref b),some (.int n),some (.int way),some (.int first),some (.int w),some (.ref r),x1,x2,x3]/\H' r=some (.lst us)/\us.length=i/\us.Nodup/\(∀x∈us,eT K A H' n (Dr (max w 6)) x)/\hZ H' b/\Inner H' b q0/\cU b H H') ⟨none,none,none,[],rfl,g1,rfl,k9,(λ_ z=>nomatch z),hB.same s1,I1,s1.upto⟩ ?_ ?_
  ·rintro i σ' H' hi ⟨x1,x2,x3,us,rfl,gu,lu,nd,ru,B',I',u'⟩;exists ⟨b,n,w,rfl,B',by lia,w0,w1,λp xs Ha np Ra la da Ba ua=>?_⟩;have hp0:H p=none:=u'.none B' np
   have pn:V.ref p∉us:=λz=>by
    obtain ⟨q',_,_,e',_,g',_⟩:=(ru _ z).at;cases e';rw[np] at g';cases g'
   have ap':H p=none/\p≠r:=⟨hp0,λz=>by rw[z,gu] at np;cases np⟩;have ap:A p:=by rw[eA];exact ap'
   have X0:FQ K A n (Dr (max w 6)) r p b q0 us H Ha:=⟨ua.other rb gu,λx hx=>(ru x hx).upto ua B' nb,⟨p,xs,rfl,ap,Ra,la,da⟩,Ba,ua.2 _ I',u'.trans ua⟩;clear ru Ra gu;exists ⟨by lia,by lia,?_⟩;refine eP (n:=n) (λj σ' H'=>(∃x3,σ'=[some (.ref b),some (.int n),some (.int way),some (.int first),some (.int w),some (.ref r),some (.int i),some (.ref p),x3])/\FQ K A n (Dr (max w 6)) r p b q0 us H H') ⟨⟨_,rfl⟩,X0⟩ ?_ ?_
   ·rintro j σ' Hj hj ⟨⟨x3,rfl⟩,X⟩;exists ⟨λσ' H'=>σ'=[some (.ref b),some (.int n),some (.int way),some (.int first),some (.int w),some (.ref r),some (.int i),some (.ref p),some (.int j)]/\FQ K A n (Dr (max w 6)) r p b q0 us H H',?_,?_⟩
    ·exists gQ (λ_=>?_) (λ_=>?_)
     ·exists ⟨b,3,rfl,X.bag,by decide,by decide,λd Hd d0 d1 Bd ud=>?_⟩;replace X:=X.upto ud Bd nb rb
      repeat' (first | walk_at "rd" | refine gQ (λ_=>?_) (λ_=>?_))
      all_goals first
       | exact ⟨rfl,X⟩
       | (refine b6 λt Hb sb gb=>?_;walk_at "w";obtain ⟨zs,gz,lz,Xz⟩:=(X.same sb).put ap nr nb nq hp0 (cb.mk (q:=0) gb rfl) (pV (i:=0) (bu _) W1) j;refine eo gz (eK (by lia)) rfl ?_;exact ⟨rfl,Xz⟩)
     ·exists ⟨rfl,X⟩
    clear X;rintro σ' Hj ⟨rfl,X⟩;refine ⟨λσ' H'=>σ'=[some (.ref b),some (.int n),some (.int way),some (.int first),some (.int w),some (.ref r),some (.int i),some (.ref p),some (.int j)]/\FQ K A n (Dr (max w 6)) r p b q0 us H H',?_,?_⟩
    ·repeat' (first | walk_at "rd" | refine gQ (λ_=>?_) (λ_=>?_))
     all_goals first
      | exact ⟨rfl,X⟩
      | (refine b6 λt Hb sb gb=>?_;walk_at "w";obtain ⟨zs,gz,lz,Xz⟩:=(X.same sb).put ap nr nb nq hp0 (cb.mk (q:=((if decide ((j:Int)=(i:Int)+1)=true then (1:Int) else 0:Int):Rat)) gb rfl) (pV (by split <;> lia) W1) j;refine eo gz (eK (by lia)) rfl ?_;exact ⟨rfl,Xz⟩)
    clear X;rintro σ' Hj ⟨rfl,X⟩;refine ⟨λσ' H'=>σ'=[some (.ref b),some (.int n),some (.int way),some (.int first),some (.int w),some (.ref r),some (.int i),some (.ref p),some (.int j)]/\FQ K A n (Dr (max w 6)) r p b q0 us H H',?_,?_⟩
    ·repeat' (first | walk_at "rd" | refine gQ (λ_=>?_) (λ_=>?_))
     all_goals first
      | exact ⟨rfl,X⟩
      | (refine b6 λt Hb sb gb=>?_;walk_at "w";obtain ⟨zs,gz,lz,Xz⟩:=(X.same sb).put ap nr nb nq hp0 (cb.mk (q:=0) gb rfl) (pV (i:=0) (bu _) W1) j;refine eo gz (eK (by lia)) rfl ?_;exact ⟨rfl,Xz⟩)
    clear X;rintro σ' Hj ⟨rfl,X⟩;exists gQ (λ_=>?_) (λ_=>?_)
    ·exists dB λl0 Hc sc nc gc=>?_
     walk_at "w";obtain ⟨x,ex,mx,_⟩:=kC (xs:=[V.int 2,V.int 1,V.int (-1),V.int 0]) (i:=first % 4) (j7 _ (by decide)) (by have:=gI first (show (0:Int) < 4 by decide);simpa using this)
     obtain ⟨z,rfl,hz⟩:∃z:Int,x=.int z/\z.natAbs<=2:=by
      simp only[aE,aV,or_false] at mx;rcases mx with rfl | rfl | rfl | rfl
      ·exact ⟨2,rfl,by decide⟩
      ·exact ⟨1,rfl,by decide⟩
      ·exact ⟨-1,rfl,by decide⟩
      ·exact ⟨0,rfl,by decide⟩
     refine cm (bO.of gc) ex ?_;exists fe (FI (by lia) (by lia)) ?_;exists b6 λt Hb sb gb=>?_
     walk_at "w";obtain ⟨zs,gz,lz,Xz⟩:=((X.same sc).same sb).put ap nr nb nq hp0 (cb.mk (q:=((z*(if decide ((i:Int)=(j:Int))=true then (1:Int) else 0):Int):Rat)) gb rfl) (pV (by split <;> lia) W1) j;refine eo gz (eK (by lia)) rfl ?_;exact ⟨⟨_,rfl⟩,Xz⟩
    ·exists ⟨⟨_,rfl⟩,X⟩
   ·rintro σ' Hj ⟨⟨x3,rfl⟩,X⟩;exists ⟨.inl ⟨rfl,_,bO.of X.gr⟩,?_⟩;exists iV X.gr (bc (by lia)) ?_;refine ⟨_,_,_,us++[.ref p],rfl,aH,by simp [lu],nR nd pn,λx hx=>?_,X.bag.upd X.inn rb rq,X.inn.upd rb,X.up.after n1⟩;rcases au.mp hx with hx | hx
    ·exact (X.ru x hx).other X.gr nr
    ·have e:x=V.ref p:=by simpa using hx
     rw[e];exact X.rp.other X.gr nr
  ·rintro σ' H' ⟨x1,x2,x3,us,rfl,gu,lu,nd,ru,B',I',u'⟩;exists k r us H' n1 gu lu nd (by rw[eA] at ru;exact ru) B' u'
theorem dw:aX ["_law_bag_here","_law_n","_law_ins","_law_outs","_law_wide","_law_way","_law_first","_law_move_here","_law_put","_law_look","_law_k","_law_row_here"] ["_law_bag_here","_law_n","_law_ins","_law_outs","_law_wide"] (aK nC):=by walk_at "d"
theorem zQ (T : Txt K mg Z) : cE P w K mg base fw 5 Z.uC Z.ug ["_law_bag_here", "_law_n", "_law_ins", "_law_outs", "_law_wide"] (zZ K) := by
  have kW := bM (P := P) (w := w) (base := base) T;have DL := BM (P := P) (w := w) (base := base) T;have zw := vS (P := P) (w := w) (base := base) T;have Cu := qG (P := P) (w := w) (base := base) T;refine T.mC.F.ok dw (λvs H Q E h => ?_) (λcdv A outer s H vs Q E hr h => ?_)
  · obtain ⟨b, n, i, o, w, c, rfl, _⟩ := h;rfl
  · obtain ⟨b, n, i, o, w, c, rfl, hB, n8, i4, o4, w0, w1, hc, hc20, hcM, k⟩ := h
    refine ⟨_, (aw (a8 (i := 5) dw.nd rfl (Or.inl rfl) (cL kW hr T.bo (ae (pv 0) (ae ar aj))))
      (aw (a8 (i := 6) dw.nd rfl (Or.inl rfl) (cL kW hr T.bo (ae (pv 0) (ae (bI fM (pv 1) ar) aj))))
      (aw (a8 (i := 7) dw.nd rfl (Or.inl rfl) (cL DL hr T.nZ (ae (pv 0) (ae (pv 1) (ae (pv 5) (ae (pv 6) (ae (pv 4) aj)))))))
      (aw (gF 8 ["_law_k"] ["_law_bag_here", "_law_n", "_law_wide"] [0, 1, 4] dw.nd rfl rfl (b7 rfl T.range (ae (pv 2) aj)) (λ_ => (aM (i := 0) (show List.Nodup (α := PySem.Str) ["_law_k", "_law_bag_here", "_law_n", "_law_wide"] by decide +kernel))) (λ_ => bZ) (λ_ => (cL zw hr T.jC (ae (pv 1) (ae (pv 2) (ae (pv 3) aj))))))
      (aw (gF 9 ["_law_k"] ["_law_bag_here", "_law_n", "_law_wide"] [0, 1, 4] dw.nd rfl rfl (b7 rfl T.range (ae (pv 3) aj)) (λ_ => (aM (i := 0) (show List.Nodup (α := PySem.Str) ["_law_k", "_law_bag_here", "_law_n", "_law_wide"] by decide +kernel))) (λ_ => bZ) (λ_ => (cL zw hr T.jC (ae (pv 1) (ae (pv 2) (ae (pv 3) aj))))))
      (aw (eE PassesOwn.never rfl (b7 rfl T.range (ae (pv 1) aj)) (aM (i := 10) dw.nd)
        (aw (eE PassesOwn.never rfl (ck (pv 8)) (aM (i := 11) dw.nd)
        (aA (cZ (PW.pt (kL (PW.pt (jL (bA eY (pv 5) ar (bH _)) (kM (bA Ae (pv 10) (pv 6) (bH _))))) (iW (PW.pt (jL (bA eY (pv 5) ar (bH _)) (jL (bA qC (bI fM (pv 10) ar) (pv 1) (bH _)) (kM (bA eY (cL kW hr T.bo (ae (pv 0) (ae ar aj))) ar (bH _))))))))) (aA (eV (cO (ae ar (ae ar aj))) (fB (pv 11) (pv 10) set_list))) bY)))
      (aA (eE PassesOwn.never rfl (ck (pv 9)) (aM (i := 11) dw.nd)
        (aA (cZ (PW.pt (kL (PW.pt (jL (bA eY (pv 5) ar (bH _)) (kM (bA Ae (pv 10) (pv 6) (bH _))))) (iW (PW.pt (jL (bA eY (pv 5) ar (bH _)) (jL (bA yu (pv 10) ar (bH _)) (kM (bA eY (cL kW hr T.bo (ae (pv 0) (ae ar aj))) ar (bH _))))))))) (aA (eV (cO (ae ar (ae ar aj))) (fB (pv 11) (pv 10) set_list))) bY))))))
      (aA (aY (cL Cu hr T.jo (ae (pv 0) (ae (pv 7) (ae (pv 8) (ae (pv 9) aj))))))))))))), ?_⟩
    refine aP (σ := [some (.ref b), some (.int n), some (.int i), some (.int o), some (.int w), none, none, none, none, none, none, none]) rfl ?_;have W1 : 1 ≤ max w 6 := by lia
    obtain ⟨q0, I0, xs0, gq0⟩ := hB.inner;exists ⟨b, 6, rfl, hB, by decide, by decide, λway H1 a0 a1 B1 u1 => ?_⟩;exists ⟨b, _, rfl, B1, by lia, by lia, λfirst H2 f0 f1 B2 u2 => ?_⟩;have u02 := u1.trans u2;exists ⟨b, n, w, way, first, rfl, B2, n8, w0, w1, λm us H3 nm0 gm lm ndm rm B3 u3 => ?_⟩;have u03 := u02.trans u3;exists ⟨by lia, by lia, ?_⟩;refine AE (n := i) (b := b) (cI K H3) (λxs => xs.length = n /\ ∀ x ∈ xs, Dr (max w 6) x) B3 (by lia) (λa u B => a.upto u B B3.at) (λ⟨q, e, _, _, g, _⟩ => ⟨q, e, by rw [g]; exact λz => nomatch z⟩) ?_ ?_
    · rintro s H' NY NN hi u B k1;exists ⟨b, n, w, rfl, B, by lia, w0, w1, λr xs H2 nr R lx dx B2 u2 => k1 _ xs _ u2 B2 ⟨lx, dx⟩ ⟨r, rfl, u.none B nr, R⟩ ⟨r, rfl, nr⟩⟩
    rintro ws puts H4 p np u4 B4 gp lp ndp hp pr4 nx4;have u04 := u03.trans u4;exists ⟨by lia, by lia, ?_⟩;refine AE (n := o) (b := b) (cI K H4) (λxs => xs.length = n /\ ∀ x ∈ xs, Dr (max w 6) x) B4 (by lia) (λa u B => a.upto u B B4.at) (λ⟨q, e, _, _, g, _⟩ => ⟨q, e, by rw [g]; exact λz => nomatch z⟩) ?_ ?_
    · rintro s H' NY NN hi u B k1;exists ⟨b, n, w, rfl, B, by lia, w0, w1, λr xs H2 nr R lx dx B2 u2 => k1 _ xs _ u2 B2 ⟨lx, dx⟩ ⟨r, rfl, u.none B nr, R⟩ ⟨r, rfl, nr⟩⟩
    rintro vs looks H5 l nl u5 B5 gl ll ndl hl pr5 nx5;have u05 := u04.trans u5;have hm0 : H m = none := u02.none B2 nm0;have hp0 : H p = none := u03.none B3 np;have hl0 : H l = none := u04.none B4 nl;have mb : m ≠ b := λz => B2.at (by rw [<- z]; exact nm0)
    have pb : p ≠ b := λz => B3.at (by rw [<- z]; exact np)
    have lb : l ≠ b := λz => B4.at (by rw [<- z]; exact nl)
    have gm4 := u4.other mb gm;have gm5 := u5.other mb gm4;have gp5 := u5.other pb gp;have mp : m ≠ p := λz => by rw [z, np] at gm; cases gm
    have ml : m ≠ l := λz => by rw [z, nl] at gm4; cases gm4
    have pl : p ≠ l := λz => by rw [z, nl] at gp; cases gp
    have mq : m ≠ q0 := λz => Inner.at B2 (u02.2 _ I0) (by rw [<- z]; exact nm0)
    obtain ⟨A, eA⟩ : ∃ A : Addr → Prop, A = λq => H q = none /\ q ≠ m /\ q ≠ p /\ q ≠ l := ⟨_, rfl⟩
    have mkA : ∀ {q}, H q = none → q ≠ m → q ≠ p → q ≠ l → A q := λh1 h2 h3 h4 => by rw [eA]; exact ⟨h1, h2, h3, h4⟩
    have unA : ∀ {q}, A q → H q = none /\ q ≠ m /\ q ≠ p /\ q ≠ l := λh => by rw [eA] at h; exact h
    have MA : DK A m p l b q0 := ⟨λz => (unA z).2.1 rfl, λz => (unA z).2.2.1 rfl, λz => (unA z).2.2.2 rfl, λz => hB.at (unA z).1, (λz => by have z1 := (unA z).1; rw [gq0] at z1; cases z1), mb, pb, lb, mp, ml, mq⟩;clear eA;have lws : ws.length = i := by rw [<- pr4.length]; exact lp
    have lvs : vs.length = o := by rw [<- pr5.length]; exact ll
    have alM : ∀ q, V.ref q ∈ us → H3 q ≠ none /\ q ≠ b /\ H4 q ≠ none := λq hq => by
      obtain ⟨q', qs, e, ⟨a1, a2⟩, r, z⟩ := rm _ hq;cases e;have qb : q ≠ b := λy => B2.at (by rw [<- y]; exact a1)
      obtain ⟨xq, gq, _⟩ := id r;obtain ⟨xq4, gq4, _⟩ := r.upto u4 B3 qb;exact ⟨(by rw [gq]; exact λz => nomatch z), qb, (by rw [gq4]; exact λz => nomatch z)⟩
    have alP : ∀ q, V.ref q ∈ ws → H3 q = none /\ H4 q ≠ none := λq hq => by
      obtain ⟨_, _, q', e, a, _, g, _⟩ := cP pr4 hq;cases e;exact ⟨a, by rw [g]; exact λz => nomatch z⟩
    have alL : ∀ q, V.ref q ∈ vs → H4 q = none := λq hq => by
      obtain ⟨_, _, q', e, a, _⟩ := cP pr5 hq;cases e;exact a
    have isR : ∀ x, x ∈ us \/ x ∈ ws \/ x ∈ vs → ∃ q, x = V.ref q := λx hx => by
      rcases hx with hx | hx | hx
      · obtain ⟨q, _, e, _⟩ := rm x hx; exact ⟨q, e⟩
      · obtain ⟨_, _, q, e, _⟩ := cP pr4 hx; exact ⟨q, e⟩
      · obtain ⟨_, _, q, e, _⟩ := cP pr5 hx; exact ⟨q, e⟩
    have nd : (us ++ vs ++ ws).Nodup := by
      refine di.mpr ⟨di.mpr ⟨ndm, ndl, λx hx y hy e => ?_⟩, ndp, λx hx y hy e => ?_⟩
      · subst e;obtain ⟨q, rfl⟩ := isR x (.inl hx);exact (alM q hx).2.2 (alL q hy)
      · subst e;obtain ⟨q, rfl⟩ := isR x (.inr (.inl hy));rcases au.mp hx with hx | hx
        · exact (alM q hx).1 (alP q hy).1
        · exact (alP q hy).2 (alL q hx)
    have X5 : ED K A n (Dr (max w 6)) m p l b q0 us ws vs H H5 := by
      refine ⟨⟨B5, u05.2 _ I0, gm5, gp5, gl, lm, λx hx => ?_, nd⟩, gp5, gl, λc u e n1 _ _ => u05.1 c u e n1⟩;rcases au.mp hx with hx | hx
      · rcases au.mp hx with hx | hx
        · obtain ⟨q, qs, e, ⟨a1, a2⟩, r, z⟩ := rm x hx;obtain ⟨xq, gq, _⟩ := id r;have qb : q ≠ b := λy => B2.at (by rw [<- y]; exact a1)
          have r4 := r.upto u4 B3 qb;obtain ⟨xq4, gq4, _⟩ := id r4;exact ⟨q, qs, e, mkA (u02.none B2 a1) a2 (λy => by rw [y, np] at gq; cases gq) (λy => by rw [y, nl] at gq4; cases gq4), r4.upto u5 B4 qb, z⟩
        · refine HX (A := A) pr5 hl (λq hq a b' => ?_) x hx;exact mkA (u04.none B4 a) (λy => by rw [y, gm4] at a; cases a) (λy => by rw [y, gp] at a; cases a) (λy => fZ nx5 (by rw [<- y]; exact hq))
      · refine eT.upto (HX (A := A) pr4 hp (λq hq a b' => ?_) x hx) u5 B4 MA.ab;exact mkA (u03.none B3 a) (λy => by rw [y, gm] at a; cases a) (λy => fZ nx4 (by rw [<- y]; exact hq)) (λy => b' (by rw [y]; exact nl))
    clear alM alP alL isR rm pr4 pr5 nx4 nx5 gm gm4 gm5 gp gp5 gl hp hl;exists ⟨by lia, by lia, ?_⟩;refine eP (n := n) (λkk σ' H' => (∃ x1 x2, σ' = [some (.ref b), some (.int n), some (.int i), some (.int o), some (.int w), some (.int way), some (.int first), some (.ref m), some (.ref p), some (.ref l), x1, x2]) /\ ED K A n (Dr (max w 6)) m p l b q0 us ws vs H H') ⟨⟨_, _, rfl⟩, X5⟩ ?_ ?_
    · rintro kk σ' Hj hk ⟨⟨x1, x2, rfl⟩, X⟩;exists ⟨⟨_, bO.of X.gp⟩, ?_⟩;refine jD (K := K) (a := p) (xs := ws) (λs σ' H' => (∃ x2, σ' = [some (.ref b), some (.int n), some (.int i), some (.int o), some (.int w), some (.int way), some (.int first), some (.ref m), some (.ref p), some (.ref l), some (.int kk), x2]) /\ ED K A n (Dr (max w 6)) m p l b q0 us ws vs H H') ⟨⟨_, rfl⟩, X⟩ (λs σ' H' _ ⟨_, e⟩ => bO.of e.gp) ?_ ?_
      · rintro s x σ' Hk hx ⟨⟨y2, rfl⟩, X⟩;have mx := ax hx;obtain ⟨q, _, rfl, _⟩ := X.row (.inl mx)
        repeat' (first | walk_at "rd" | refine gQ (λ_ => ?_) (λ_ => ?_))
        all_goals first
          | exact ⟨⟨_, rfl⟩, X⟩
          | (refine b6 λt Hb sb gb => ?_; walk_at "w"; obtain ⟨zs, gz, lz, Xz⟩ := (X.same sb).put MA (.inl mx) (cb.mk (q := 0) gb rfl) (pV (i := 0) (bu _) W1) kk; refine eo gz (eK (by lia)) rfl ?_; exact ⟨⟨_, rfl⟩, Xz⟩)
          | (refine ⟨b, 2, rfl, X.mix.bag, by decide, by decide, λd Hd d0 d1 Bd ud => ?_⟩
             replace X := X.upto MA ud Bd
             repeat' (first | walk_at "rd" | refine gQ (λ_ => ?_) (λ_ => ?_))
             all_goals first
               | exact ⟨⟨_, rfl⟩, X⟩
               | (refine b6 λt Hb sb gb => ?_
                  walk_at "w";obtain ⟨zs, gz, lz, Xz⟩ := (X.same sb).put MA (.inl mx) (cb.mk (q := 0) gb rfl) (pV (i := 0) (bu _) W1) kk;refine eo gz (eK (by lia)) rfl ?_;exact ⟨⟨_, rfl⟩, Xz⟩))
      · rintro σ' Hk ⟨⟨y2, rfl⟩, X⟩;exists ⟨⟨_, bO.of X.gl⟩, ?_⟩;refine jD (K := K) (a := l) (xs := vs) (λs σ' H' => (∃ x2, σ' = [some (.ref b), some (.int n), some (.int i), some (.int o), some (.int w), some (.int way), some (.int first), some (.ref m), some (.ref p), some (.ref l), some (.int kk), x2]) /\ ED K A n (Dr (max w 6)) m p l b q0 us ws vs H H') ⟨⟨_, rfl⟩, X⟩ (λs σ' H' _ ⟨_, e⟩ => bO.of e.gl) ?_ ?_
        · rintro s x σ' Hk hx ⟨⟨y2, rfl⟩, X⟩;have mx := ax hx;obtain ⟨q, _, rfl, _⟩ := X.row (.inr mx)
          repeat' (first | walk_at "rd" | refine gQ (λ_ => ?_) (λ_ => ?_))
          all_goals first
            | exact ⟨⟨_, rfl⟩, X⟩
            | (refine b6 λt Hb sb gb => ?_; walk_at "w"; obtain ⟨zs, gz, lz, Xz⟩ := (X.same sb).put MA (.inr mx) (cb.mk (q := 0) gb rfl) (pV (i := 0) (bu _) W1) kk; refine eo gz (eK (by lia)) rfl ?_; exact ⟨⟨_, rfl⟩, Xz⟩)
            | (refine ⟨b, 2, rfl, X.mix.bag, by decide, by decide, λd Hd d0 d1 Bd ud => ?_⟩
               replace X := X.upto MA ud Bd
               repeat' (first | walk_at "rd" | refine gQ (λ_ => ?_) (λ_ => ?_))
               all_goals first
                 | exact ⟨⟨_, rfl⟩, X⟩
                 | (refine b6 λt Hb sb gb => ?_
                    walk_at "w";obtain ⟨zs, gz, lz, Xz⟩ := (X.same sb).put MA (.inr mx) (cb.mk (q := 0) gb rfl) (pV (i := 0) (bu _) W1) kk;refine eo gz (eK (by lia)) rfl ?_;exact ⟨⟨_, rfl⟩, Xz⟩))
        · rintro σ' Hk ⟨⟨y2, rfl⟩, X⟩;exact ⟨⟨_, _, rfl⟩, X⟩
    · rintro σ' Hj ⟨⟨x1, x2, rfl⟩, X⟩
      obtain ⟨M1, M2, M3, V0, a1, a2, a3, V2, hcs, R1, R2, R3⟩ : ∃ M1 M2 M3 V0 : Nat, (0 < M1 /\ M1 ≤ 2 ^ 800) /\ (0 < M2 /\ M2 ≤ 2 ^ 800) /\ (0 < M3 /\ M3 ≤ 2 ^ 800) /\ V0 ≤ 2 ^ 20 /\ ((w ≤ 9 /\ M1 = 2520 /\ M2 = 2520 /\ M3 = 2520 /\ V0 = 9) \/ (9 < w /\ M1 ≤ 2 ^ (c * (n * n)) /\ M2 ≤ 2 ^ (c * (i * n)) /\ M3 ≤ 2 ^ (c * (o * n)) /\ V0 = 2 ^ c)) /\ (∀ x ∈ us, eT K A Hj n (Fr M1 V0) x) /\ (∀ x ∈ ws, eT K A Hj n (Fr M2 V0) x) /\ ∀ x ∈ vs, eT K A Hj n (Fr M3 V0) x := by
        by_cases w9 : w ≤ 9
        · have XM := X.mix.weak (C' := λ_ => Fr 2520 9) λ_ _ y h => Jk ⟨ai h.1 (by lia), ai h.2 (by lia)⟩ (Nat.dvd_refl _)
          have z : 0 < 2520 /\ 2520 ≤ 2 ^ 800 := ⟨by decide, ai (show 2520 ≤ 2 ^ 12 by decide) (ao (by decide) (by decide))⟩;exact ⟨2520, 2520, 2520, 9, z, z, z, by decide, .inl ⟨w9, rfl, rfl, rfl, rfl⟩, λx hx => XM.row x (by simp [hx]), λx hx => XM.row x (by simp [hx]), λx hx => XM.row x (by simp [hx])⟩
        · obtain ⟨M1, M2, M3, a1, a2, a3, b1, b2, b3, R1, R2, R3⟩ := (X.mix.weak (C' := λ_ => Dr (2 ^ c)) λ_ _ y h => ⟨ai h.1 hc, ai h.2 hc⟩).fr3;rw [lws] at b2;rw [lvs] at b3;have up : ∀ {M k : Nat}, M ≤ 2 ^ (c * k) → k ≤ (n + i + o) * n → M ≤ 2 ^ 800 := λh hk => ai h (ao (by decide) (ai (bD _ hk) hcM))
          exact ⟨M1, M2, M3, 2 ^ c, ⟨a1, up b1 (az _ (by lia))⟩, ⟨a2, up b2 (az _ (by lia))⟩, ⟨a3, up b3 (az _ (by lia))⟩, ao (by decide) hc20, .inr ⟨by lia, b1, b2, b3, rfl⟩, R1, R2, R3⟩
      obtain ⟨μ, e2, e3, e1, e4⟩ := Iy ws vs M1 M2 M3;obtain ⟨ap1, ap2⟩ := X.mix.apart
      have XM : iJ K A Hj n (λx => Fr (μ x) V0) m p l b q0 us ws vs := by
        refine ⟨X.mix.bag, X.mix.inn, X.mix.gm, X.mix.gp, X.mix.gl, X.mix.lm, λx hx => ?_, X.mix.nd⟩;rcases au.mp hx with hx | hx
        · rcases au.mp hx with hx | hx
          · rw [e1 x (ap1 x hx).1 (ap1 x hx).2]; exact R1 x hx
          · rw [e3 x hx (ap2 x hx)]; exact R3 x hx
        · rw [e2 x hx]; exact R2 x hx
      have p1 : ∀ x, 0 < μ x := λx => by
        rcases e4 x with e | e | e
        · rw [e]; exact a1.1
        · rw [e]; exact a2.1
        · rw [e]; exact a3.1
      have p2 : ∀ x, μ x ≤ 2 ^ 800 := λx => by
        rcases e4 x with e | e | e
        · rw [e]; exact a1.2
        · rw [e]; exact a2.2
        · rw [e]; exact a3.2
      have gmj := X.mix.gm;exists ⟨b, m, p, l, q0, n, V0, μ, A, us, ws, vs, rfl, MA, XM, n8, by lia, by lia, p1, p2, ⟨M1, e1⟩, V2, λq hq => ?_, λr us' H' g Y kp => ?_⟩
      · refine mkA ?_ (λz => by rw [z, gmj] at hq; cases hq) (λz => by rw [z, X.gp] at hq; cases hq) (λz => by rw [z, X.gl] at hq; cases hq);cases e : H q with
        | none => rfl
        | some u =>
          have := X.kp q u e (λz => X.mix.bag.at (by rw [<- z]; exact hq)) (λz => by have := (unA z).1; rw [e] at this; cases this) (λz => by rw [z, hm0] at e; cases e);rw [hq] at this; cases this
      · obtain ⟨yp1, yp2⟩ := Y.apart;obtain ⟨mv, Gm, lmv, hmv⟩ := je (H0 := H) (n := n) (C := Fr M1 (9 ^ 3 * V0)) (m := n) ⟨us', Y.gm, Y.lm, MA.am, λx hx => by have := Y.row x (by simp [hx]); rwa [e1 x (yp1 x hx).1 (yp1 x hx).2] at this⟩ λq h => (unA h).1
        obtain ⟨pt, Gp, lpt, hpt⟩ := je (H0 := H) (n := n) (C := Fr M2 (9 ^ 3 * V0)) (m := i) ⟨ws, Y.gp, lws, MA.ap, λx hx => by have := Y.row x (by simp [hx]); rwa [e2 x hx] at this⟩ λq h => (unA h).1
        obtain ⟨lk, Gl, llk, hlk⟩ := je (H0 := H) (n := n) (C := Fr M3 (9 ^ 3 * V0)) (m := o) ⟨vs, Y.gl, lvs, MA.al, λx hx => by have := Y.row x (by simp [hx]); rwa [e3 x hx (yp2 x hx)] at this⟩ λq h => (unA h).1
        refine k r mv pt lk H' ⟨m, p, l, g, hm0, hp0, hl0, Gm, Gp, Gl⟩ lmv lpt llk ⟨by lia, by lia, by lia, λxs hx => by rw [(hmv xs hx).1, lmv], λxs hx => by rw [(hpt xs hx).1, lmv], λxs hx => by rw [(hlk xs hx).1, lmv]⟩ ⟨M1, M2, M3, 9 ^ 3 * V0, a1.1, a2.1, a3.1, λxs hx => (hmv xs hx).2, λxs hx => (hpt xs hx).2, λxs hx => (hlk xs hx).2, ?_⟩ Y.bag ⟨λc' u e n1 => (X.kp.trans kp) c' u e n1 (λz => by have := (unA z).1; rw [e] at this; cases this) (λz => by rw [z, hm0] at e; cases e), λq h => by rw [<- Inner.inj I0 h]; exact Y.inn⟩;rcases hcs with ⟨b1, b2, b3, b4, b5⟩ | ⟨b1, b2, b3, b4, b5⟩
        · exact .inl ⟨b1, b2, b3, b4, by rw [b5]⟩
        · exact .inr ⟨b1, b2, b3, b4, by rw [b5]⟩
theorem fL:aX ["_law_bag_here","_law_n","_law_ins","_law_outs","_law_wide"] ["_law_bag_here"] (aK lS):=by walk_at "d"
theorem yz (T:Txt K mg Z):cE P w K mg base fw 6 Z.rf Z.qO ["_law_bag_here"] (JV K):=by
 refine T.kv.F.ok fL (λvs H Q E h=>?_) (λcdv A outer s H vs Q E hr h=>?_)
 ·obtain ⟨b,rfl,_⟩:=h;rfl
 ·obtain ⟨b,rfl,hB,k⟩:=h
  refine ⟨_,(aw (eV (cL (zO T) hr T.mo (ae (pv 0) aj)) (yn rfl (c7 (aM (i:=1) fL.nd) (c7 (aM (i:=2) fL.nd) (c7 (aM (i:=3) fL.nd) (c7 (aM (i:=4) fL.nd) jV))))))
   (aw (cZ (bA eY (cL (bM T) hr T.bo (ae (pv 0) (ae ar aj))) ar (bH _)) (aw (cZ (bA eY (cL (bM T) hr T.bo (ae (pv 0) (ae ar aj))) ar (bH _)) (aA (aY (cO (ae (cL (tF T) hr T.iB (ae (pv 0) aj)) (ae ar aj))))) bY)
   (aA (aY (cO (ae (cL (nL T) hr T.iC (ae (pv 0) (ae (bI fM ar (cL (bM T) hr T.bo (ae (pv 0) (ae ar aj)))) aj))) (ae ar aj)))))) bY)
   (aA (aY (cO (ae (cL (zQ T) hr T.mC (ae (pv 0) (ae (pv 1) (ae (pv 2) (ae (pv 3) (ae (pv 4) aj)))))) (ae (bL (qg rfl) (by rfl) T.min PyProof.Rows.boot_min (ae (pv 4) (ae ar aj))) aj))))))),?_⟩
  refine aP (σ:=[some (.ref b),none,none,none,none]) rfl ?_;have sf:∀{mv pt lk:LR9} {M V1:Nat},0 < M->M<=2^400->V1<=2^30->GF M V1 mv->GF M V1 pt->GF M V1 lk->LQ mv pt lk:=λh0 h1 h2 a b c=>⟨_,_,h0,h1,ai h2 (ao (by decide) (by decide)),a,b,c⟩
  have et:∀{mv:LR9},(bQ mv mv.length).length=mv.length:=cW;exists ⟨b,rfl,hB,λr n i o w H1 g1 n5 i4 o4 hw h5 B1 u1=>?_⟩;exists ⟨b,16,rfl,B1,by decide,by decide,λv H2 v0 v1 B2 u2=>?_⟩;have u02:=u1.trans u2;exists gQ (λh0=>?_) (λh0=>?_)
  ·exists ⟨b,2,rfl,B2,by decide,by decide,λv2 H3 _ _ B3 u3=>?_⟩;have u03:=u02.trans u3;exists gQ (λh1=>?_) (λh1=>?_)
   ·exists ⟨b,rfl,B3,λr4 mv pt lk H4 P4 l6 D fm fp fl B4 u4=>?_⟩;exists b6 λt H5 s5 g5=>?_
    exact k t r4 4 mv pt lk H5 g5 ((P4.weak λq h=>u03.none B3 h).same s5) D (sf (by decide) bw (by decide) fm fp fl) (.inl ⟨by decide,by decide,by decide,by decide,by decide,fm,fp,ai (az _ (show mv.length+4<=12 by have:=D.n8;lia)) (by decide)⟩) (.inl ⟨by decide,by decide,by decide,by decide,by decide,sO fm,fl,ai (az _ (show (bQ mv mv.length).length+4<=12 by have:=D.n8;rw[et];lia)) (by decide)⟩) (by decide) (by decide) (B4.same s5) ((u03.trans u4).same s5)
   ·exists ⟨b,3,rfl,B3,by decide,by decide,λv3 H4 v30 v31 B4 u4=>?_⟩;obtain ⟨v3,rfl⟩:=gC v30;have u04:=u03.trans u4;walk_at "w";rw[show ((6:Int)+(v3:Int))=((6+v3:Nat):Int) by lia];refine ⟨b,6+v3,rfl,B4,by lia,by lia,λr4 mv pt lk H5 P5 lm _ _ D fm fp fl B5 u5=>?_⟩;exists b6 λt H6 s6 g6=>?_
    exact k t r4 4 mv pt lk H6 g6 ((P5.weak λq h=>u04.none B4 h).same s6) D (sf (by decide) bw (by decide) fm fp fl) (.inl ⟨by decide,by decide,by decide,by decide,by decide,(λxs hx x hx'=>(fm xs hx x hx').mono (by decide)),(λxs hx x hx'=>(fp xs hx x hx').mono (by decide)),ai (az _ (show mv.length+4<=12 by have:=D.n8;lia)) (by decide)⟩) (.inl ⟨by decide,by decide,by decide,by decide,by decide,sO (λxs hx x hx'=>(fm xs hx x hx').mono (by decide)),(λxs hx x hx'=>(fl xs hx x hx').mono (by decide)),ai (az _ (show (bQ mv mv.length).length+4<=12 by have:=D.n8;rw[et];lia)) (by decide)⟩) (by decide) (by decide) (B5.same s6) ((u04.trans u5).same s6)
  ·obtain ⟨c,hc,hc20,hcM⟩:∃c:Nat,max w 6<=2^c/\c<=20/\c*((n+i+o)*n)<=800/\(9 < w->c=20/\(n+i+o)*n<=20/\n<=2):=by
    have m1:(n+i+o)*n<=13*5:=aI (by lia) n5;rcases hw with rfl | rfl | ⟨rfl,n2⟩
    ·exact ⟨4,by decide,by decide,by lia,λz=>by lia⟩
    ·exact ⟨4,by decide,by decide,by lia,λz=>by lia⟩
    ·have m2:(n+i+o)*n<=10*2:=aI (by lia) n2;exact ⟨20,by decide,by decide,by lia,λ_=>⟨rfl,by lia,n2⟩⟩
   obtain ⟨hcM,hbig⟩:=hcM;exists ⟨b,n,i,o,w,c,rfl,B2,by lia,i4,o4,by lia,by lia,hc,hc20,hcM,λr4 mv pt lk H4 P4 lm lp ll D PF B4 u4=>?_⟩;have hmin:(if (1000:Int) < (w:Int) then (1000:Int) else (w:Int))=((min w 1000:Nat):Int):=by split <;> lia
   have PG:=PF;obtain ⟨M,V1,M0,fm,fp,fl,hcs⟩:=PF.n
   have SF:LQ mv pt lk:=by
    rcases hcs with ⟨w9,rfl,rfl⟩ | ⟨w9,M1,rfl⟩
    ·exact sf (by decide) (ai (show 2520<=2^12 by decide) (ao (by decide) (by decide))) (by decide) fm fp fl
    ·obtain ⟨rfl,e1,e2⟩:=hbig w9;exact sf M0 (ai M1 (ao (by decide) (by lia))) (by decide) fm fp fl
   have RG:Rg mv pt (min w 1000):=by
    obtain ⟨M1,M2,M3,V1,a1,a2,a3,f1,f2,f3,hc'⟩:=PG;rcases hc' with ⟨w9,rfl,rfl,_,rfl⟩ | ⟨w9,b1,b2,_,rfl⟩
    ·exact .inr (.inl ⟨by lia,by lia,by decide,by decide,by decide,by decide,f1,f2,ai (az _ (show mv.length+4<=9 by lia)) (by decide)⟩)
    ·obtain ⟨rfl,e1,e2⟩:=hbig w9;have q1:n*n<=2*2:=aI e2 e2;have q2:i*n<=4*2:=aI i4 e2;have w6:w=1000000:=by lia
     exact .inr (.inr ⟨by lia,by lia,M1,M2,a1,a2,ai b1 (ao (by decide) (by lia)),ai b2 (ao (by decide) (by lia)),f1,f2,ai (az _ (show mv.length+4<=6 by lia)) (by decide)⟩)
   have RL:Rg (bQ mv mv.length) lk (min w 1000):=by
    obtain ⟨M1,M2,M3,V1,a1,a2,a3,f1,f2,f3,hc'⟩:=PG;rcases hc' with ⟨w9,rfl,rfl,rfl,rfl⟩ | ⟨w9,b1,b2,b3,rfl⟩
    ·exact .inr (.inl ⟨by lia,by rw[et];lia,by decide,by decide,by decide,by decide,sO f1,f3,ai (az _ (show (bQ mv mv.length).length+4<=9 by rw[et];lia)) (by decide)⟩)
    ·obtain ⟨rfl,e1,e2⟩:=hbig w9;have q1:n*n<=2*2:=aI e2 e2;have q2:o*n<=4*2:=aI o4 e2;have w6:w=1000000:=by lia
     exact .inr (.inr ⟨by lia,by rw[et];lia,M1,M3,a1,a3,ai b1 (ao (by decide) (by lia)),ai b3 (ao (by decide) (by lia)),sO f1,f3,ai (az _ (show (bQ mv mv.length).length+4<=6 by rw[et];lia)) (by decide)⟩)
   exists b6 λt H5 s5 g5=>?_
   rw[hmin] at g5;exact k t r4 (min w 1000) mv pt lk H5 g5 ((P4.weak λq h=>u02.none B2 h).same s5) D SF RG RL (by lia) (by lia) (B4.same s5) ((u02.trans u4).same s5)
theorem Bh:aX ["thing","at","most"] ["thing","at","most"] (aK oZ):=by walk_at "d"
theorem nH (T:Txt K mg Z):cE P w K mg base fw 1 Z.wq Z.vU ["thing","at","most"] EO:=by
 refine T.ir.F.ok Bh (λvs H Q E h=>?_) (λcdv A outer s H vs Q E hr h=>?_)
 ·obtain ⟨p,xs,a,m,rfl,_⟩:=h;rfl
 ·obtain ⟨p,xs,a,m,rfl,gx,hm,k⟩:=h
  refine ⟨_,(aw (cZ (jM (ij (vo rfl T.isinstance PyProof.Rows.boot_list T.list (pv 0)))) (aA E8) bY)
   (aA (cZ (bA yu (bL be (by rfl) T.len aU (ae (pv 0) aj)) (pv 2) (bH _)) (aA E8) bY))),?_⟩
  refine aP (σ:=[some (.ref p),some (.int a),some (.int m)]) rfl ?_;exists ⟨_,_,.lst gx,rfl,?_⟩;exists ⟨_,_,rfl,.inl (bO.of gx),?_⟩;walk_at "w";rw[decide_eq_false (show ¬m < (xs.length:Int) by lia)];exists k
theorem C0:aX ["thing"] ["thing"] (aK rO):=by walk_at "d"
theorem vR (T:Txt K mg Z):cE P w K mg base fw 1 Z.ze Z.yT ["thing"] F0:=by
 refine T.kO.F.ok C0 (λvs H Q E h=>?_) (λcdv A outer s H vs Q E hr h=>?_)
 ·obtain ⟨i,rfl,_⟩:=h;rfl
 ·obtain ⟨i,rfl,k⟩:=h;refine ⟨_,(aA (aY (BE (vo rfl T.isinstance PyProof.Rows.boot_int T.int (pv 0)) (BA (MJ (vo rfl T.isinstance PyProof.Rows.boot_bool T.bool (pv 0))))))),?_⟩;refine aP (σ:=[some (.int i)]) rfl ?_;exists ⟨_,_,.int i,rfl,?_⟩;exists ⟨_,_,.int i,rfl,?_⟩;exists k
theorem fF:aX ["one","other","rest"] ["one","other"] (aK iS):=by walk_at "d"
theorem ip (T:Txt K mg Z):cE P w K mg base fw 1 Z.mR Z.mM ["one","other"] NX:=by
 refine T.eI.F.ok fF (λvs H Q E h=>?_) (λcdv A outer s H vs Q E hr h=>?_)
 ·obtain ⟨a,b,rfl,_⟩:=h;rfl
 ·obtain ⟨a,b,rfl,k⟩:=h
  refine ⟨_,(aw (yi PassesOwn.never (bA tD (pv 1) ar (bH _))
    (aw (a8 (i:=2) fF.nd rfl (Or.inl rfl) (bI KA (pv 0) (pv 1)))
   (aw (a8 (i:=0) fF.nd rfl (Or.inl rfl) (pv 1))
   (aA (a8 (i:=1) fF.nd rfl (Or.inl rfl) (pv 2))))))
   (aA (aY (bL y9 (by rfl) T.abs PyProof.Rows.boot_abs (ae (pv 0) aj))))),?_⟩
  refine aP (σ:=[some (.int a),some (.int b),none]) rfl ?_;exists A2 (λσ' H'=>∃(u v:Int) (r:Option V),σ'=[some (.int u),some (.int v),r]/\H'=H/\Int.gcd u v=Int.gcd a b) (λσ' _=>match σ' with | [_,some (.int v),_]=>v.natAbs | _=>0) ⟨a,b,none,rfl,rfl,rfl⟩ ?_;rintro σ' H' ⟨u,v,r,rfl,rfl,hg⟩;exists gQ (λh=>?_) (λh=>?_)
  ·have hv:v≠0:=λz=>by subst z;simp at h
   exists fe (show v≠0 from hv) ?_;exists ⟨⟨v,u.fmod v,_,rfl,rfl,(Ja u v).trans hg⟩,KN u v hv⟩
  ·have hv:v=0:=by
    by_cases z:v=0
    ·exact z
    ·exfalso;apply h;simp [z]
   subst hv;walk_at "w"
   have e:(if u < 0 then -u else u)=g a b:=by
    unfold g;rw[<- hg,Int.gcd_zero_right]
    split <;> lia
   rw[e];exact k
theorem Bl:aX ["thing"] ["thing"] (aK o6):=by walk_at "d"
theorem BI (T:Txt K mg Z):cE P w K mg base fw 2 Z.wF Z.vX ["thing"] (F4 K):=by
 refine T.nV.F.ok Bl (λvs H Q E h=>?_) (λcdv A outer s H vs Q E hr h=>?_)
 ·obtain ⟨x,n,rfl,_⟩:=h;rfl
 ·obtain ⟨x,n,rfl,⟨p,rfl,hp⟩,hn,k⟩:=h
  refine ⟨_,(aw (cZ (PW.pt (kL (jM (ij (p9 rfl T.isinstance PyProof.Rows.boot_tuple T.tuple (pv 0)))) (iW (bA tD (bL be (by rfl) T.len aU (ae (pv 0) aj)) ar (bH _))))) (aA (aY mH)) bY)
   (aw (cZ (PW.pt (kL (jM (ij (cL (vR T) hr T.kO (ae (aZ bU (pv 0) ar) aj)))) (iW (jM (ij (cL (vR T) hr T.kO (ae (aZ bU (pv 0) ar) aj))))))) (aA (aY mH)) bY)
   (aA (aY (BE (gG Ae (aZ bU (pv 0) ar) ar (bH _)) (BA (gG eY (cL (ip T) hr T.eI (ae (aZ bU (pv 0) ar) (ae (aZ bU (pv 0) ar) aj))) ar (bH _)))))))),?_⟩
  refine aP (σ:=[some (.ref p)]) rfl ?_;obtain ⟨hb,hg,s1,s2⟩:=hn;exists .inr ⟨p,_,_,rfl,hp,rfl,?_⟩;exists ⟨_,_,rfl,.inr hp,?_⟩;walk_at "w"
  try refine IM ?_
  exists ⟨n.1,rfl,?_⟩;exists ⟨n.2,rfl,?_⟩;walk_at "w";rw[decide_eq_true (show (1:Int)<=n.2 by lia)];exists ⟨n.1,n.2,rfl,?_⟩;walk_at "w";have e:g n.1 n.2=1:=by unfold g;rw[hg];rfl
  rw[e,decide_eq_true rfl];exact k _ (aF.refl _)
theorem F7:aX ["thing","many"] ["thing","many"] (aK yd):=by walk_at "d"
theorem Gr (T:Txt K mg Z):cE P w K mg base fw 3 Z.DI Z.Dy ["thing","many"] (uQ K):=by
 refine T.vA.F.ok F7 (λvs H Q E h=>?_) (λcdv A outer s H vs Q E hr h=>?_)
 ·obtain ⟨p,ns,rfl,_⟩:=h;rfl
 ·obtain ⟨p,ns,rfl,hp,hl,hn,k⟩:=h
  refine ⟨_,(aw (cZ (PW.pt (kL (jM (ij (vo rfl T.isinstance PyProof.Rows.boot_list T.list (pv 0)))) (iW (bA tD (bL be (by rfl) T.len aU (ae (pv 0) aj)) (pv 1) (bH _))))) (aA (aY mH)) bY)
   (aA (aY (bL (y8 rfl) (by rfl) T.all PyProof.Rows.boot_all (ae (bW ["value"] [] [] (ck (pv 0)) (λ_=>(aM (i:=0) (show ND9 ["value"] by decide +kernel))) (λ_=>bZ) (λ_=>(cL (BI T) hr T.nV (ae (pv 0) aj)))) aj))))),?_⟩
  refine aP (σ:=[some (.ref p),some (.int ns.length)]) rfl ?_;obtain ⟨xs,gx,qx⟩:=id hp;have lx:=qx.length;exists ⟨_,_,.lst gx,rfl,?_⟩;exists ⟨_,_,rfl,.inl (bO.of gx),?_⟩;walk_at "w";rw[show ((xs.length:Nat):Int)=(ns.length:Nat) by rw[lx],decide_eq_true rfl];exists ⟨⟨_,bO.of gx⟩,?_⟩;refine dd (K:=K) (xs:=xs) (λi ys H'=>aF H H'/\ys=List.replicate i (.bl true)) (aN (bc (by lia))) ⟨aF.refl _,rfl⟩ (λi ys H' _ ⟨s,_⟩=>bO.of (s _ _ gx)) ?_ ?_
  ·rintro i x ys H' hx hlen ⟨s,rfl⟩;obtain ⟨n,en,z⟩:=cJ qx hx;exists ⟨x,n,rfl,s.num z,hn n (ax en),λH2 s2=>⟨s.trans s2,by rw[AZ]⟩⟩
  ·rintro ys H' hy ⟨s,rfl⟩ l hl';exists ⟨l,List.replicate xs.length true,rfl,bO.of (by rw[aH];simp),?_⟩;have e4:(List.replicate xs.length true).all id=true:=by simp
   rw[e4];exact k _ (s.trans (aF.new hl'))
theorem ke:aX ["things","wide","place","thing"] ["things","wide"] (aK lO):=by walk_at "d"
theorem kj (T:Txt K mg Z):cE P w K mg base fw 4 Z.qY Z.qM ["things","wide"] (EZ K):=by
 refine T.fQ.F.ok ke (λvs H Q E h=>?_) (λcdv A outer s H vs Q E hr h=>?_)
 ·obtain ⟨p,H0,rows,w,rfl,_⟩:=h;rfl
 ·obtain ⟨p,H0,rows,w,rfl,hp,hl,hw,hn,k⟩:=h
  refine ⟨_,(aw (eE PassesOwn.never rfl (Fb rfl T.enumerate (ae (pv 0) aj)) (yn rfl (c7 (aM (i:=2) ke.nd) (c7 (aM (i:=3) ke.nd) jV)))
    (aA (cZ (jM (ij (cL (Gr T) hr T.vA (ae (pv 3) (ae (pv 1) aj))))) (aA E8) bY)))
   (aA (aY (bW ["row"] [] [] (ck (pv 0)) (λ_=>(aM (i:=0) (show ND9 ["row"] by decide +kernel))) (λ_=>bZ) (λ_=>(eX (ju K (by rfl)) (by rfl) T.list PyProof.Rows.boot_list (ae (pv 0) aj))))))),?_⟩
  refine aP (σ:=[some (.ref p),some (.int w),none,none]) rfl ?_;obtain ⟨xs,gx,qx,_⟩:=id hp;exists ⟨⟨_,bO.of gx⟩,?_⟩;refine Je (K:=K) (l:=p) (xs:=xs) (λi σ' H'=>aF H H'/\∃x y,σ'=[some (.ref p),some (.int w),x,y]) ⟨aF.refl _,none,none,rfl⟩ (λi σ' H' _ ⟨s,_⟩=>bO.of (s _ _ gx)) ?_ ?_
  ·rintro i x σ' H' t hx ⟨s,x1,y1,rfl⟩ ht;obtain ⟨qs,eq,q,rfl,_,Rq⟩:=cJ qx hx;have hm:=ax eq;have st:aF H' (upd H' t (.tup [.int i,.ref q])):=aF.new ht;have gt:(upd H' t (.tup [.int i,.ref q])) t=some (.tup [.int i,.ref q]):=aH;have s2:=s.trans st;generalize upd H' t (.tup [.int i,.ref q])=H2 at st gt s2 ⊢;have lq:(qs.map nm).length=w:=by rw[ag];exact (hn qs hm).1
   exists ⟨q,_,by rw[lq],(Rq.same s2).rowK,by rw[lq];exact hw,λn hn'=>?_,λH3 s3=>?_⟩
   ·obtain ⟨y,hy,rfl⟩:=ay.mp hn';exact (hn qs hm).2 y hy
   exists ⟨s2.trans s3,_,_,rfl⟩
  ·rintro σ' H' ⟨s,x1,y1,rfl⟩;exists ⟨⟨_,bO.of (s _ _ gx)⟩,?_⟩;refine c8 (K:=K) (F:=cI K H0) (cI K H) id (s _ _ gx) (Paired.imp' (λ_ _ z=>z.same s) qx) hl (λa b=>a.same b) (λa b=>a.same b) ?_ ?_
   ·rintro i ns x H2 NY NN en s2 ⟨u,rfl,_,zs,gz,qz⟩ k1;exists ⟨u,zs,rfl,.inl (bO.of gz),λl1 hl1=>?_⟩;exact k1 _ _ (aF.new hl1) ⟨l1,rfl,s.none (s2.none hl1),zs,aH,Paired.imp' (λ_ _ z=>z.same (aF.new hl1)) qz⟩
   ·rintro ys' H2 r hr s2 g pr nx;rw[uJ] at pr nx;exact k r H2 (s.none hr) (s.trans s2) ⟨ys',g,pr,fZ nx⟩
theorem rM:aX ["self","move","put","look"] ["self","move","put","look"] (aK dH):=by walk_at "d"
theorem gN (T:Txt K mg Z):cE P w K mg base fw 5 Z.iH Z.iG ["self","move","put","look"] (EW K Z.a_System):=by
 refine T.kX.ok rM (λvs H Q E h=>?_) (λcdv A outer s H vs Q E hr h=>?_)
 ·obtain ⟨x,dx,p,q,r,Hb,H0,H1,H2,mv,pt,lk,rfl,_⟩:=h;rfl
 ·obtain ⟨x,dx,p,q,r,Hb,H0,H1,H2,mv,pt,lk,rfl,nx,ndx,nex,rfl,gp,gq,gr,D,om,op,ol,k⟩:=h
  refine ⟨_,(aw (ji (cL (nH T) hr T.ir (ae (pv 1) (ae ar (ae (nF (v:=.int 8) rfl T.mg_MOST_STATES ⟨_,rfl⟩) aj)))))
   (aw (vg (pv 0) (cL (kj T) hr T.fQ (ae (pv 1) (ae (bL be (by rfl) T.len aU (ae (pv 1) aj)) aj))) rfl)
   (aw (vg (pv 0) (bL be (by rfl) T.len aU (ae (ee (pv 0) rfl) aj)) rfl)
   (aw (ji (cL (nH T) hr T.ir (ae (pv 2) (ae ar (ae (nF (v:=.int 4) rfl T.mg_MOST_PUTS ⟨_,rfl⟩) aj)))))
   (aw (vg (pv 0) (cL (kj T) hr T.fQ (ae (pv 2) (ae (ee (pv 0) rfl) aj))) rfl)
   (aw (vg (pv 0) (bL be (by rfl) T.len aU (ae (ee (pv 0) rfl) aj)) rfl)
   (aw (ji (cL (nH T) hr T.ir (ae (pv 3) (ae ar (ae (nF (v:=.int 4) rfl T.mg_MOST_LOOKS ⟨_,rfl⟩) aj)))))
   (aw (vg (pv 0) (cL (kj T) hr T.fQ (ae (pv 3) (ae (ee (pv 0) rfl) aj))) rfl)
   (aA (vg (pv 0) (bL be (by rfl) T.len aU (ae (ee (pv 0) rfl) aj)) rfl)))))))))),?_⟩
  refine aP (σ:=[some (.ref x),some (.ref p),some (.ref q),some (.ref r)]) rfl ?_
  have s0:aF Hb (upd (upd Hb dx (.own x)) x (.ins Z.a_System dx [])):=λb o e=>by
   rw[br (eO e nx),br (eO e ndx)];exact e
  have hx:(upd (upd Hb dx (.own x)) x (.ins Z.a_System dx [])) x=some (.ins Z.a_System dx []):=aH;have back:∀{b},(upd (upd Hb dx (.own x)) x (.ins Z.a_System dx [])) b=none->Hb b=none:=λh=>s0.none h
  generalize upd (upd Hb dx (.own x)) x (.ins Z.a_System dx [])=Ha at s0 hx back ⊢;obtain ⟨xs,gx,qx,_⟩:=id gp;obtain ⟨ys,gy,qy,_⟩:=id gq;obtain ⟨zs,gz,qz,_⟩:=id gr;have lx:=qx.length;have ly:=qy.length;have lz:=qz.length;have d1:=D.n8;have d2:=D.i4;have d3:=D.o4;exists ⟨p,xs,0,8,rfl,s0 _ _ gx,by lia,?_⟩;exists ⟨_,_,rfl,.inl (bO.of (s0 _ _ gx)),?_⟩;exists ⟨p,H0,mv,mv.length,by rw[lx],gp.same s0,by lia,by lia,λws hw=>⟨D.mw ws hw,om ws hw⟩,λa H3 na s3 Ga=>?_⟩;have hx3:=s3 _ _ hx;exists ⟨x,Z.a_System,dx,_,rfl,hx3,T.cl_System,T.na_move,(by show 0 < 1000;decide),?_⟩;have e3:Cv x H3 (upd H3 x (.ins Z.a_System dx (cg "move" (.ref a) []))):=Cv.upd;have i3:rB H3 x:=⟨_,_,_,hx3⟩;have hx4:(upd H3 x (.ins Z.a_System dx (cg "move" (.ref a) []))) x=some (.ins Z.a_System dx (cg "move" (.ref a) [])):=aH;have Ga4:=Ga.exc e3 i3;have k4:aF Hb (upd H3 x (.ins Z.a_System dx (cg "move" (.ref a) []))):=(s0.trans s3).after nx;generalize upd H3 x (.ins Z.a_System dx (cg "move" (.ref a) []))=H4 at e3 hx4 Ga4 k4 ⊢;exists ⟨x,Z.a_System,dx,_,_,rfl,hx4,T.cl_System,T.na_move,(by rw[bF,if_pos rfl]),?_⟩;obtain ⟨as,ga,qa,_⟩:=id Ga4;have la:=qa.length;exists ⟨_,_,rfl,.inl (bO.of ga),?_⟩;exists ⟨x,Z.a_System,dx,_,rfl,hx4,T.cl_System,T.na_states,bg dM (by show 1 < 1000;decide),?_⟩;rw[show ((as.length:Nat):Int)=((mv.length:Nat):Int) by rw[la]];have e4:Cv x H4 (upd H4 x (.ins Z.a_System dx (cg "states" (.int mv.length) (cg "move" (.ref a) [])))):=Cv.upd;have i4:rB H4 x:=⟨_,_,_,hx4⟩;have hx5:(upd H4 x (.ins Z.a_System dx (cg "states" (.int mv.length) (cg "move" (.ref a) [])))) x=some (.ins Z.a_System dx (cg "states" (.int mv.length) (cg "move" (.ref a) []))):=aH;have Ga5:=Ga4.exc e4 i4;have k5:aF Hb (upd H4 x (.ins Z.a_System dx (cg "states" (.int mv.length) (cg "move" (.ref a) [])))):=k4.after nx;generalize upd H4 x (.ins Z.a_System dx (cg "states" (.int mv.length) (cg "move" (.ref a) [])))=H5 at e4 hx5 Ga5 k5 ⊢;clear e3 e4 i3 i4 hx4 Ga4 ga qa;exists ⟨q,ys,1,4,rfl,k5 _ _ gy,by lia,?_⟩;exists ⟨x,Z.a_System,dx,_,_,rfl,hx5,T.cl_System,T.na_states,(by rw[bF,if_pos rfl]),?_⟩;exists ⟨q,H1,pt,mv.length,rfl,gq.same k5,by lia,by lia,λws hw=>⟨D.pw ws hw,op ws hw⟩,λb H6 nb s6 Gb=>?_⟩;have hx6:=s6 _ _ hx5;have i6:rB H6 x:=⟨_,_,_,hx6⟩;exists ⟨x,Z.a_System,dx,_,rfl,hx6,T.cl_System,T.na_put,bg dM (bg (de dM) (by show 2 < 1000;decide)),?_⟩;have e6:Cv x H6 (upd H6 x (.ins Z.a_System dx (cg "put" (.ref b) (cg "states" (.int mv.length) (cg "move" (.ref a) []))))):=Cv.upd;have hx7:(upd H6 x (.ins Z.a_System dx (cg "put" (.ref b) (cg "states" (.int mv.length) (cg "move" (.ref a) []))))) x=some (.ins Z.a_System dx (cg "put" (.ref b) (cg "states" (.int mv.length) (cg "move" (.ref a) [])))):=aH;have Ga7:=(Ga5.same s6).exc e6 i6;have Gb7:=(Gb.weak k5).exc e6 i6;have k7:aF Hb (upd H6 x (.ins Z.a_System dx (cg "put" (.ref b) (cg "states" (.int mv.length) (cg "move" (.ref a) []))))):=(k5.trans s6).after nx;generalize upd H6 x (.ins Z.a_System dx (cg "put" (.ref b) (cg "states" (.int mv.length) (cg "move" (.ref a) []))))=H7 at e6 hx7 Ga7 Gb7 k7 ⊢;obtain ⟨bs,gb,qb,_⟩:=id Gb7;have lb:=qb.length;exists ⟨x,Z.a_System,dx,_,_,rfl,hx7,T.cl_System,T.na_put,(by rw[bF,if_pos rfl]),?_⟩;exists ⟨_,_,rfl,.inl (bO.of gb),?_⟩;exists ⟨x,Z.a_System,dx,_,rfl,hx7,T.cl_System,T.na_ins,bg dM (bg (de (ai dM (de dM))) (by show 3 < 1000;decide)),?_⟩;rw[show ((bs.length:Nat):Int)=((pt.length:Nat):Int) by rw[lb]];have i7:rB H7 x:=⟨_,_,_,hx7⟩;have e7:Cv x H7 (upd H7 x (.ins Z.a_System dx (cg "ins" (.int pt.length) (cg "put" (.ref b) (cg "states" (.int mv.length) (cg "move" (.ref a) [])))))):=Cv.upd;have hx8:(upd H7 x (.ins Z.a_System dx (cg "ins" (.int pt.length) (cg "put" (.ref b) (cg "states" (.int mv.length) (cg "move" (.ref a) [])))))) x=some (.ins Z.a_System dx (cg "ins" (.int pt.length) (cg "put" (.ref b) (cg "states" (.int mv.length) (cg "move" (.ref a) []))))):=aH;have Ga8:=Ga7.exc e7 i7;have Gb8:=Gb7.exc e7 i7;have k8:aF Hb (upd H7 x (.ins Z.a_System dx (cg "ins" (.int pt.length) (cg "put" (.ref b) (cg "states" (.int mv.length) (cg "move" (.ref a) [])))))):=k7.after nx;generalize upd H7 x (.ins Z.a_System dx (cg "ins" (.int pt.length) (cg "put" (.ref b) (cg "states" (.int mv.length) (cg "move" (.ref a) [])))))=H8 at e7 hx8 Ga8 Gb8 k8 ⊢;clear e6 e7 i6 i7 hx7 Ga7 Gb7 gb qb;exists ⟨r,zs,2,4,rfl,k8 _ _ gz,by lia,?_⟩;exists ⟨x,Z.a_System,dx,_,_,rfl,hx8,T.cl_System,T.na_states,(by rw[bF,if_neg (by decide +kernel),bF,if_neg (by decide +kernel),bF,if_pos rfl]),?_⟩;exists ⟨r,H2,lk,mv.length,rfl,gr.same k8,by lia,by lia,λws hw=>⟨D.lw ws hw,ol ws hw⟩,λc H9 nc s9 Gc=>?_⟩;have hx9:=s9 _ _ hx8;have i9:rB H9 x:=⟨_,_,_,hx9⟩;exists ⟨x,Z.a_System,dx,_,rfl,hx9,T.cl_System,T.na_look,bg dM (bg (de (ai dM (de (ai dM (de dM))))) (by show 4 < 1000;decide)),?_⟩;have e9:Cv x H9 (upd H9 x (.ins Z.a_System dx (cg "look" (.ref c) (cg "ins" (.int pt.length) (cg "put" (.ref b) (cg "states" (.int mv.length) (cg "move" (.ref a) []))))))):=Cv.upd;have hxA:(upd H9 x (.ins Z.a_System dx (cg "look" (.ref c) (cg "ins" (.int pt.length) (cg "put" (.ref b) (cg "states" (.int mv.length) (cg "move" (.ref a) []))))))) x=some (.ins Z.a_System dx (cg "look" (.ref c) (cg "ins" (.int pt.length) (cg "put" (.ref b) (cg "states" (.int mv.length) (cg "move" (.ref a) [])))))):=aH;have GaA:=(Ga8.same s9).exc e9 i9;have GbA:=(Gb8.same s9).exc e9 i9;have GcA:=(Gc.weak k8).exc e9 i9;have kA:aF Hb (upd H9 x (.ins Z.a_System dx (cg "look" (.ref c) (cg "ins" (.int pt.length) (cg "put" (.ref b) (cg "states" (.int mv.length) (cg "move" (.ref a) []))))))):=(k8.trans s9).after nx;generalize upd H9 x (.ins Z.a_System dx (cg "look" (.ref c) (cg "ins" (.int pt.length) (cg "put" (.ref b) (cg "states" (.int mv.length) (cg "move" (.ref a) []))))))=HA at e9 hxA GaA GbA GcA kA ⊢;obtain ⟨cs,gc,qc,_⟩:=id GcA;have lc:=qc.length;exists ⟨x,Z.a_System,dx,_,_,rfl,hxA,T.cl_System,T.na_look,(by rw[bF,if_pos rfl]),?_⟩;exists ⟨_,_,rfl,.inl (bO.of gc),?_⟩;exists ⟨x,Z.a_System,dx,_,rfl,hxA,T.cl_System,T.na_outs,bg dM (bg (de (ai dM (de (ai dM (de (ai dM (de dM))))))) (by show 5 < 1000;decide)),?_⟩;rw[show ((cs.length:Nat):Int)=((lk.length:Nat):Int) by rw[lc]];have iA:rB HA x:=⟨_,_,_,hxA⟩;exact k _ (kA.after nx) ⟨dx,a,b,c,aH,back na,k5.none nb,k8.none nc,(GaA.exc Cv.upd iA).weak s0,GbA.exc Cv.upd iA,GcA.exc Cv.upd iA⟩
theorem ya:aX ["_law_grid"] ["_law_grid"] (aK lW):=by walk_at "d"
theorem kn (T:Txt K mg Z):cE P w K mg base fw 1 Z.rj Z.qR ["_law_grid"] (xV K):=by
 refine T.fR.F.ok ya (λvs H Q E h=>?_) (λcdv A outer s H vs Q E hr h=>?_)
 ·obtain ⟨p,H0,rows,rfl,_⟩:=h;rfl
 ·obtain ⟨p,H0,rows,rfl,hp,hl,hm,k⟩:=h;refine ⟨_,(aA (aY (bW ["_law_row_here"] [] [] (ck (pv 0)) (λ_=>(aM (i:=0) (show ND9 ["_law_row_here"] by decide +kernel))) (λ_=>bZ) (λ_=>(eX (ju K (by rfl)) (by rfl) T.list PyProof.Rows.boot_list (ae (pv 0) aj)))))),?_⟩;refine aP (σ:=[some (.ref p)]) rfl ?_;obtain ⟨xs,gx,qx,_⟩:=id hp;exists ⟨⟨_,bO.of gx⟩,?_⟩;refine c8 (K:=K) (F:=cI K H0) (cI K H) id gx qx hl (λa b=>a.same b) (λa b=>a.same b) ?_ ?_
  ·rintro i ns x H' NY NN en s ⟨u,rfl,_,zs,gz,qz⟩ k1;exists ⟨u,zs,rfl,.inl (bO.of gz),λl1 hl1=>?_⟩;exact k1 _ _ (aF.new hl1) ⟨l1,rfl,s.none hl1,zs,aH,Paired.imp' (λ_ _ z=>z.same (aF.new hl1)) qz⟩
  ·rintro ys' H' r hr s g pr nx;rw[uJ] at pr nx;exact k r H' hr s ⟨ys',g,pr,fZ nx⟩
theorem Br:aX ["_law_parts_here"] ["_law_parts_here"] (aK pB):=by walk_at "d"
theorem BN (T:Txt K mg Z):cE P w K mg base fw 7 Z.wQ Z.wb ["_law_parts_here"] (xN K Z.a_System):=by
 refine T.oa.F.ok Br (λvs H Q E h=>?_) (λcdv A outer s H vs Q E hr h=>?_)
 ·obtain ⟨r,H0,mv,pt,lk,rfl,_⟩:=h;rfl
 ·obtain ⟨r,H0,mv,pt,lk,rfl,PQ,D,F,k⟩:=h;refine ⟨_,(aA (aY (BC T.mk_System (gN T) (hr.mono (by decide)) rfl T.mg_System T.fG .nil Dc (ae (cL (kn T) hr T.fR (ae (aZ bU (pv 0) ar) aj)) (ae (cL (kn T) hr T.fR (ae (aZ bU (pv 0) ar) aj)) (ae (cL (kn T) hr T.fR (ae (aZ bU (pv 0) ar) aj)) aj)))))),?_⟩;refine aP (σ:=[some (.ref r)]) rfl ?_;obtain ⟨m,p,l,g,n1,n2,n3,Gm,Gp,Gl⟩:=id PQ;have d1:=D.n8;have d2:=D.i4;have d3:=D.o4;exists ⟨m,H0,mv,rfl,Gm,by lia,λxs hx=>by rw[D.mw xs hx];lia,λa H1 na s1 Ga=>?_⟩;have g1:=s1 _ _ g;exists ⟨p,H0,pt,rfl,Gp.same s1,by lia,λxs hx=>by rw[D.pw xs hx];lia,λb H2 nb s2 Gb=>?_⟩;have s12:=s1.trans s2;have g2:=s12 _ _ g;exists ⟨l,H0,lk,rfl,Gl.same s12,by lia,λxs hx=>by rw[D.lw xs hx];lia,λc H3 nc s3 Gc=>?_⟩;have s13:=s12.trans s3;walk_at "w";intro x dx nx ndx nex;exact ⟨x,dx,a,b,c,H3,H,H1,H2,mv,pt,lk,rfl,nx,ndx,nex,rfl,(Ga.same s2).same s3,Gb.same s3,Gc,D,F.ok.1,F.ok.2.1,F.ok.2.2,λH' s' S'=>⟨rfl,k x H' (s13.none nx) (s13.trans s') (S'.weak s13)⟩⟩
theorem Bn:aX ["_law_one","_law_other"] ["_law_one","_law_other"] (aK o9):=by walk_at "d"
theorem BJ (T:Txt K mg Z):cE P w K mg base fw 2 Z.wI Z.v5 ["_law_one","_law_other"] (xO K):=by
 refine T.nW.F.ok Bn (λvs H Q E h=>?_) (λcdv A outer s H vs Q E hr h=>?_)
 ·obtain ⟨p,q,a,b,c,d,rfl,hp,hq,hb,hd,hc,sa,sb,sc,sd,k⟩:=C9 h;rfl
 ·obtain ⟨p,q,a,b,c,d,rfl,hp,hq,hb,hd,hc,sa,sb,sc,sd,k⟩:=C9 h
  refine ⟨_,(aw (cZ (bA qC (aZ bU (pv 1) ar) ar (bH _)) (aA (aY (cL (fg T) hr T.dX (ae (bI gM ar (bI cQ (aZ bU (pv 0) ar) (aZ bU (pv 1) ar))) (ae (bI gM ar (bI cQ (aZ bU (pv 0) ar) (aZ bU (pv 1) ar))) aj))))) bY)
   (aA (aY (cL (fg T) hr T.dX (ae (bI cQ (aZ bU (pv 0) ar) (aZ bU (pv 1) ar)) (ae (bI cQ (aZ bU (pv 0) ar) (aZ bU (pv 1) ar)) aj)))))),?_⟩
  refine aP (σ:=[some (.ref p),some (.ref q)]) rfl ?_;have sbc:Sz 8999 (b*c):=(sb.mul sc).mono (by decide);exists gQ (λh=>?_) (λh=>?_)
  ·have h0:c < 0:=of_decide_eq_true h;have hbc:b*c < 0:=sL hb h0;exists fe (show fh _ _ from .inr ⟨_,_,sa,sd,by decide⟩) ?_;exists fe (show fh _ _ from .inr ⟨_,_,sb,sc,by decide⟩) ?_;exists ⟨_,_,rfl,by lia,by rw[Int.zero_sub];exact sbc.neg,λr H' s' h'=>?_⟩;exact k r H' s' (by rw[if_pos h0,if_pos h0];exact h')
  ·have h0:¬c < 0:=λz=>h (decide_eq_true z)
   have hbc:0 < b*c:=gE hb (by lia);exists fe (show fh _ _ from .inr ⟨_,_,sa,sd,by decide⟩) ?_;exists fe (show fh _ _ from .inr ⟨_,_,sb,sc,by decide⟩) ?_;exists ⟨_,_,rfl,hbc,sbc,λr H' s' h'=>?_⟩;exact k r H' s' (by rw[if_neg h0,if_neg h0];exact h')
theorem Bs:aX ["_law_one","_law_other"] ["_law_one","_law_other"] (aK pF):=by walk_at "d"
theorem BO (T:Txt K mg Z):cE P w K mg base fw 2 Z.wW Z.we ["_law_one","_law_other"] (m3 K (λx y=>x - y)):=by
 refine T.og.F.ok Bs (λvs H Q E h=>?_) (λcdv A outer s H vs Q E hr h=>?_)
 ·obtain ⟨p,q,a,b,c,d,rfl,hp,hq,hb,hd,sa,sb,sc,sd,k⟩:=xp h;rfl
 ·obtain ⟨p,q,a,b,c,d,rfl,hp,hq,hb,hd,sa,sb,sc,sd,k⟩:=xp h;refine ⟨_,(aA (aY (cL (fg T) hr T.dX (ae (bI gM (bI cQ (aZ bU (pv 0) ar) (aZ bU (pv 1) ar)) (bI cQ (aZ bU (pv 1) ar) (aZ bU (pv 0) ar))) (ae (bI cQ (aZ bU (pv 0) ar) (aZ bU (pv 1) ar)) aj))))),?_⟩;refine aP (σ:=[some (.ref p),some (.ref q)]) rfl ?_;have hbd:0 < b*d:=gE hb hd;have sbd:Sz 8999 (b*d):=(sb.mul sd).mono (by decide);exists fe (show fh _ _ from .inr ⟨_,_,sa,sd,by decide⟩) ?_;exists fe (show fh _ _ from .inr ⟨_,_,sc,sb,by decide⟩) ?_;exists fe (show fh _ _ from .inr ⟨_,_,sb,sd,by decide⟩) ?_;walk_at "w";exists ⟨_,_,rfl,hbd,sbd,k⟩
theorem zI:aX ["_law_one","_law_other"] ["_law_one","_law_other"] (aK nE):=by walk_at "d"
theorem qH (T:Txt K mg Z):cE P w K mg base fw 3 Z.uE Z.ui ["_law_one","_law_other"] (Aa K):=by
 refine T.jq.F.ok zI (λvs H Q E h=>?_) (λcdv A outer s H vs Q E hr h=>?_)
 ·obtain ⟨p,q,xs,ys,rfl,_⟩:=h;rfl
 ·obtain ⟨p,q,xs,ys,rfl,hp,hq,hl,hz,h1,h2,kk⟩:=h;refine ⟨_,(aA (aY (bW ["_law_k"] ["_law_one","_law_other"] [0,1] (b7 rfl T.range (ae (bL be (by rfl) T.len aU (ae (pv 0) aj)) aj)) (λ_=>(aM (i:=0) (show ND9 ["_law_k","_law_one","_law_other"] by decide +kernel))) (λ_=>bZ) (λ_=>(cL (BO T) hr T.og (ae (aZ (fu K (by rfl)) (pv 1) (pv 0)) (ae (aZ (fu K (by rfl)) (pv 2) (pv 0)) aj))))))),?_⟩;refine aP (σ:=[some (.ref p),some (.ref q)]) rfl ?_;obtain ⟨us,gu,qu⟩:=id hp;obtain ⟨ws,gw,qw⟩:=id hq;have lu:=qu.length;exists ⟨_,_,rfl,.inl (bO.of gu),?_⟩;exists ⟨by lia,by lia,?_⟩;refine fb (n:=us.length) (cb K) (λi=>xs.getD i 0 - ys.getD i 0) (by lia) (λa b=>a.same b) ?_ ?_
  ·rintro i H' NY NN hi s k1;have ix:i < xs.length:=by lia
   have iy:i < ys.length:=by lia
   obtain ⟨vx,ex,nx⟩:=Dq (Paired.imp' (λ_ _ z=>z.same s) qu) ix;obtain ⟨vy,ey,ny⟩:=Dq (Paired.imp' (λ_ _ z=>z.same s) qw) iy;exists cm (bO.of (s _ _ gu)) ex ?_;exists cm (bO.of (s _ _ gw)) ey ?_;exists ⟨_,_,_,_,rfl,nx,ny,h1 _ (getD_mem ix),h2 _ (getD_mem iy),λr3 H3 s3 n3=>k1 _ _ s3 n3⟩
  ·rintro ys' H' l hl' s g pr nx;exact kk l H' hl' s ⟨ys',g,by rw[DQ (by lia)];rw[<- lu] at pr;exact pr⟩
theorem dR:aX ["_law_rows","_law_wide","_law_left","_law_found","_law_place","_law_heads","_law_head"] ["_law_rows","_law_wide"] (aK pG):=by walk_at "d"
theorem tG (T:Txt K mg Z):cE P w K mg base fw 4 Z.wX Z.wg ["_law_rows","_law_wide"] (xQ K):=by
 refine T.jZ.F.ok dR (λvs H Q E h=>?_) (λcdv A outer s H vs Q E hr h=>?_)
 ·obtain ⟨p,n,S,H0,rows,rfl,_⟩:=h;rfl
 ·obtain ⟨p,n,S,H0,rows,rfl,G,r100,n100,hw,⟨e39,J,j0,jskip,jlean,jlw,jsz⟩,k⟩:=h
  refine ⟨_,(aw (a8 (i:=2) dR.nd rfl (Or.inr rfl) (bW ["_law_row_here"] [] [] (ck (pv 0)) (λ_=>(aM (i:=0) (show ND9 ["_law_row_here"] by decide +kernel))) (λ_=>bZ) (λ_=>(eX (ju K (by rfl)) (by rfl) T.list PyProof.Rows.boot_list (ae (pv 0) aj)))))
   (aw (a8 (i:=3) dR.nd rfl (Or.inl rfl) (eF aj))
   (aw (eE PassesOwn.never rfl (b7 rfl T.range (ae (pv 1) aj)) (aM (i:=4) dR.nd rfl (Or.inr rfl) (Or.inl rfl))
    (aw (gF 5 ["_law_k"] ["_law_left","_law_place"] [2,4] dR.nd rfl rfl (b7 rfl T.range (ae (bL be (by rfl) T.len aU (ae (pv 2) aj)) aj)) (λ_=>(aM (i:=0) (show ND9 ["_law_k","_law_left","_law_place"] by decide +kernel))) (λ_=>yo (bA (BG K (by rfl) (zR hr)) (aZ (fu K (by rfl)) (aZ (fu K (by rfl)) (pv 1) (pv 0)) (pv 2)) (cO (ae ar (ae ar aj))) (bH _))) (λ_=>(pv 0)))
   (aA (cZ (bA (vp (zR hr)) (pv 5) (eF aj) (bH _)) (aw (a8 (i:=6) dR.nd rfl (Or.inr rfl) (tx cM PySem.F.slot_list_pop PySem.F.type_list_pop Iz (pv 2) (ae (aZ bS (pv 5) ar) aj)))
   (aw (a8 (i:=6) dR.nd rfl (Or.inr rfl) (cL (nN T) hr T.jb (ae (cL (BJ T) hr T.nW (ae (cO (ae ar (ae ar aj))) (ae (aZ bS (pv 6) (pv 4)) aj))) (ae (pv 6) aj))))
   (aw (a8 (i:=2) dR.nd rfl (Or.inr rfl) (bW ["_law_row_here"] ["_law_place","_law_head"] [4,6] (ck (pv 2)) (λ_=>(aM (i:=0) (show ND9 ["_law_row_here","_law_place","_law_head"] by decide +kernel))) (λ_=>bZ) (λ_=>(cL (qH T) hr T.jq (ae (pv 0) (ae (cL (nN T) hr T.jb (ae (aZ (fu K (by rfl)) (pv 0) (pv 1)) (ae (pv 2) aj))) aj))))))
   (aw (gF 3 ["_law_row_here"] ["_law_place","_law_head"] [4,6] dR.nd rfl rfl (ck (pv 3)) (λ_=>(aM (i:=0) (show ND9 ["_law_row_here","_law_place","_law_head"] by decide +kernel))) (λ_=>bZ) (λ_=>(cL (qH T) hr T.jq (ae (pv 0) (ae (cL (nN T) hr T.jb (ae (aZ (fu K (by rfl)) (pv 0) (pv 1)) (ae (pv 2) aj))) aj)))))
   (aA (ji (tx cM dm dk iZ (pv 3) (ae (pv 6) aj)))))))) bY))))
   (aA (aY (pv 3)))))),?_⟩
  refine aP (σ:=[some (.ref p),some (.int n),none,none,none,none,none]) rfl ?_;obtain ⟨xs,gx,qx,_⟩:=id G;have szT:∀{D:Nat} {x:Rat},0 < D->D<=2^S->Tp D (2^S) x->mU x:=λh0 h1 t=>rH t h0 (ai h1 (ao (by decide) (by lia))) (ao (by decide) (by lia))
  have szP:∀{D D':Nat} {x y:Rat},0 < D->0 < D'->D<=2^S->D'<=2^S->Tp D (2^S) x->Tp D' (2^S) y->mU (x*y):=λh0 h0' h1 h1' t t'=>rH (t.mul t') (cw h0 h0') (ai (aI h1 h1') (by rw[<- bC];exact ao (by decide) (by lia))) (by rw[<- bC];exact ao (by decide) (by lia))
  exists ⟨⟨_,bO.of gx⟩,?_⟩;refine c8 (K:=K) (F:=cI K H0) (cI K H) id gx qx (by lia) (λa b=>a.same b) (λa b=>a.same b) ?_ ?_
  ·rintro i ns x H' NY NN en s ⟨u,rfl,_,zs,gz,qz⟩ k1;exists ⟨u,zs,rfl,.inl (bO.of gz),λl1 hl1=>?_⟩;exact k1 _ _ (aF.new hl1) ⟨l1,rfl,s.none hl1,zs,aH,Paired.imp' (λ_ _ z=>z.same (aF.new hl1)) qz⟩
  rintro ys1 H1 L hL s1 g1 pr1 nx1;rw[uJ] at pr1 nx1;have GL1:bB K H H1 L rows:=⟨ys1,g1,pr1,fZ nx1⟩;exists dB λfd H2 s2 nf gf=>?_
  have fdL:fd≠L:=λz=>by rw[z,g1] at nf;cases nf
  clear g1 pr1 nx1;exists ⟨by lia,by lia,?_⟩;refine eP (n:=n) (λP σ' H'=>aF H H'/\∃lp fp ls fs ps vs y1 y2 y3,σ'=[some (.ref p),some (.int n),some (.ref lp),some (.ref fp),y1,y2,y3]/\H lp=none/\H fp=none/\fp≠lp/\bB K H H' lp ls/\H' fp=some (.lst vs)/\Paired (mD K (λq=>(H q=none/\q≠fp)/\q≠lp) H') fs vs/\fs.length=ps.length/\J P (fs++ls) ps) ⟨s1.trans s2,L,fd,rows,[],[],[],_,_,_,rfl,hL,s1.none nf,fdL,GL1.same s2,gf,.nil,rfl,j0⟩ ?_ ?_
  ·rintro P σ' H' hP ⟨s',lp,fp,ls,fs,ps,vs,y1,y2,y3,rfl,nlp,nfp,fl,GL,gv,pv,hf,JI⟩;have I:=jlw _ _ _ JI;have len:=I.len;rw[av] at len;have wide:=I.wide;obtain ⟨us,gu,qu,nu⟩:=id GL;have lu:=qu.length;have lv:=pv.length
   have szI:∀{i:Nat},i < rows.length->∀c,mU (bJ (fs++ls) i c):=λhi c=>by
    obtain ⟨D,D0,D1,D2⟩:=jsz _ _ _ JI (by lia) _ hi;exact szT D0 D1 (D2 c)
   have ez:∀i,(ls.map λr=>r.getD P 0).getD i 0=bJ ls i P:=λi=>MP
   exists ⟨_,_,rfl,.inl (bO.of gu),?_⟩;rw[<- lu];exists ⟨by lia,by lia,?_⟩;refine gR (n:=ls.length) (λi ys H''=>aF H' H''/\ys=b9 (Di (ls.map λr=>r.getD P 0) i)) (aN (bc (by lia))) ⟨aF.refl _,rfl⟩ ?_ ?_
   ·rintro i ys Hb hi hlen ⟨sb,rfl⟩;rw[jy];obtain ⟨xt,vt,et,evt,mt,qt,rfl,nqt,Rt⟩:=fo (Paired.imp' (λ_ _ z=>cI.same z sb) qu) hi;have wt:=wide xt (au.mpr (.inr mt));obtain ⟨zs,gz,qz⟩:=id Rt;obtain ⟨vx,ex,nx⟩:=Dq qz (j:=P) (by lia);have fx:(ls.map λr=>r.getD P 0).getD i 0=xt.getD P 0:=by rw[ez];unfold bJ;rw[aa (l:=ls),et];rfl
    exists cm (bO.of (sb _ _ gu)) (dS evt) ?_;exists cm (bO.of gz) ex ?_;exists b6 λt0 Hc sc gc=>?_
    exists ⟨_,_,Fn,xt.getD P 0,0,by decide,nx.same sc,cb.mk (q:=0) gc rfl,?_⟩;by_cases e:xt.getD P 0=0
    ·rw[decide_eq_true e];exists ⟨sb.trans sc,?_⟩;rw[xv,fx,if_neg (by simpa using e)]
    ·rw[decide_eq_false e];exists ⟨sb.trans sc,?_⟩;rw[xv,fx,if_pos e];unfold b9;rw[bK];rfl
   rintro ys Hb hy ⟨sb,rfl⟩ hd hhd;have nzm:∀c,c∈Di (ls.map λr=>r.getD P 0) ls.length↔c < ls.length/\bJ ls c P≠0:=λc=>by rw[MN,ez]
   generalize Di (ls.map λr=>r.getD P 0) ls.length=hs at hy hhd nzm;have sn:aF Hb (upd Hb hd (.lst (b9 hs))):=aF.new hhd;have gh:(upd Hb hd (.lst (b9 hs))) hd=some (.lst (b9 hs)):=aH;generalize upd Hb hd (.lst (b9 hs))=Hc at sn gh ⊢;have sbc:=sb.trans sn;exists dB λem Hd sd nd gd=>?_
   exists ⟨_,_,IK Eo,pT hs,pT [],by decide,qd (sd _ _ gh),qd gd,?_⟩;have sbd:=sbc.trans sd;by_cases e0:hs=[]
   ·subst e0;rw[decide_eq_true rfl];exists ⟨s'.trans sbd,lp,fp,ls,fs,ps,vs,_,_,_,rfl,nlp,nfp,fl,GL.same sbd,sbd _ _ gv,Paired.imp' (λ_ _ z=>mD.same z sbd) pv,hf,jskip _ _ _ JI λi h1 h2=>?_⟩;rw[av] at h2;obtain ⟨j,rfl⟩:∃j,i=fs.length+j:=⟨i - fs.length,by lia⟩;rw[ox];by_cases z:bJ ls j P=0
    ·exact z
    ·exact absurd ((nzm j).mpr ⟨by lia,z⟩) (by simp)
   ·rw[decide_eq_false (λz=>e0 (Ds z))]
    obtain ⟨t,hs',rfl⟩:∃t hs',hs=t :: hs':=by cases hs with
     | nil=>exact absurd rfl e0
     | cons t r=>exact ⟨t,r,rfl⟩
    obtain ⟨tl,hne⟩:=(nzm t).mp (.head _);have gud:=sbd _ _ gu;obtain ⟨xt,vt,et,evt,mt,qt,rfl,nqt,Rt⟩:=fo (Paired.imp' (λ_ _ z=>cI.same z sbd) qu) tl;have ext:ls.getD t []=xt:=by rw[aa,et];rfl
    have hne':xt.getD P 0≠0:=by unfold bJ at hne;rw[ext] at hne;exact hne
    have wt:=wide xt (au.mpr (.inr mt));have qtl:qt≠lp:=λz=>nu (by rw[<- z];exact ax evt)
    exists ⟨.inl ⟨rfl,_,bO.of gud⟩,?_⟩;exists cm (bO.of (sd _ _ gh)) (dS (j:=0) rfl) ?_;exists ⟨lp,us,t,t,_,rfl,rfl,gud,by lia,by lia,PySem.StrLaws.seqIndex_nonneg (by lia) (by lia),evt,?_⟩;have s0e:aF H (upd Hd lp (.lst (us.eraseIdx t))):=(s'.trans sbd).after nlp;obtain ⟨us',gu',pu'⟩:=(GL.same sbd).toE;have eus:us'=us:=by rw[gud] at gu';cases gu';rfl
    subst eus;have ple:Paired (mD K (λq=>H q=none/\q≠lp) (upd Hd lp (.lst (us'.eraseIdx t)))) (ls.eraseIdx t) (us'.eraseIdx t):=tz (Paired.imp' (λ_ _ z=>mD.updL z gud (λq h=>h.2)) pu') t;have gle:(upd Hd lp (.lst (us'.eraseIdx t))) lp=some (.lst (us'.eraseIdx t)):=aH;have gve:(upd Hd lp (.lst (us'.eraseIdx t))) fp=some (.lst vs):=by rw[br fl];exact sbd _ _ gv
    have pve:Paired (mD K (λq=>(H q=none/\q≠fp)/\q≠lp) (upd Hd lp (.lst (us'.eraseIdx t)))) fs vs:=Paired.imp' (λ_ _ z=>mD.updL (mD.same z sbd) gud (λq h=>h.2)) pv;have Re:dC K (upd Hd lp (.lst (us'.eraseIdx t))) qt xt:=Rt.updL gud qtl;generalize upd Hd lp (.lst (us'.eraseIdx t))=He at s0e ple gle gve pve Re ⊢;clear pu' gu' gud Rt;have I2:=jlean _ _ _ _ _ JI hf tl hP (by rw[ext];exact hne');rw[ext] at I2
    have rowD:∀r∈fs++ls,∃D:Nat,0 < D/\D<=2^S/\∀c,Tp D (2^S) (r.getD c 0):=λr hr=>by
     obtain ⟨i,hi,rfl⟩:=aQ hr;obtain ⟨D,D0,D1,D2⟩:=jsz _ _ _ JI (by lia) i (by rw[av] at hi;lia);refine ⟨D,D0,D1,λc=>?_⟩;have:=D2 c;unfold bJ at this;rw[aa (l:=fs++ls),af hi] at this;exact this
    have szr:∀r∈fs++ls,∀y∈r,mU y:=λr hr y hy=>by
     obtain ⟨D,D0,D1,D2⟩:=rowD r hr;obtain ⟨c,hc,rfl⟩:=aQ hy;have:=D2 c;rw[aa,af hc] at this;exact szT D0 D1 this
    have mxt:xt∈fs++ls:=au.mpr (.inr mt);have lu2:(kR P xt).length=n:=by unfold kR;rw[ag];exact wt
    obtain ⟨Du,Du0,Du1,Du2⟩:∃D:Nat,0 < D/\D<=2^S/\∀y∈kR P xt,Tp D (2^S) y:=by
     obtain ⟨D,D0,D1,D2⟩:=jsz _ _ _ I2 (by lia) ps.length (by lia);refine ⟨D,D0,D1,λy hy=>?_⟩;obtain ⟨c,hc,rfl⟩:=aQ hy;have:=D2 c;rw[b8,show ps.length=(fs.map (xj P (kR P xt))).length+0 by rw[ag];lia,ox] at this
     have e:bJ ([kR P xt]++(ls.eraseIdx t).map (xj P (kR P xt))) 0 c=(kR P xt)[c]:=by
      show (kR P xt).getD c 0=_
      rw[aa,af hc];rfl
     rw[e] at this;exact this
    have szu:∀y∈kR P xt,mU y:=λy hy=>szT Du0 Du1 (Du2 y hy)
    have szp:∀r∈fs++ls,∀y∈kR P xt,mU (r.getD P 0*y):=λr hr y hy=>by
     obtain ⟨D,D0,D1,D2⟩:=rowD r hr;exact szP D0 Du0 D1 Du1 (D2 P) (Du2 y hy)
    obtain ⟨zs,gz,qz⟩:=id Re;obtain ⟨vx,ex,nx⟩:=Dq qz (j:=P) (by lia);have szx:mU (xt.getD P 0):=szr xt mxt _ (getD_in (by lia));exists b6 λtq Hf sf gf=>?_
    exists cm (bO.of (sf _ _ gz)) ex ?_;exists ⟨_,_,1,xt.getD P 0,rfl,cb.mk (q:=1) gf rfl,nx.same sf,JO,szx,hne',λqr Hg sg nq=>?_⟩;have sfg:=sf.trans sg;exists ⟨_,qt,1 / xt.getD P 0,xt,rfl,nq,JP szx hne',Re.same sfg,by lia,szr xt mxt,λur Hh nur sh Rur=>?_⟩;have Rur:dC K Hh ur (kR P xt):=Rur;have seh:=sfg.trans sh;have s0h:=s0e.trans seh;have nur0:H ur=none:=(s0e.trans sfg).none nur;exists ⟨⟨_,bO.of (seh _ _ gle)⟩,?_⟩;refine c8 (K:=K) (F:=mD K (λq=>H q=none/\q≠lp)) (cI K H) (xj P (kR P xt)) (seh _ _ gle) (Paired.imp' (λ_ _ z=>mD.same z seh) ple) (by rw[LX tl];lia) (λa b=>a.same b) (λa b=>a.same b) ?_ ?_
    ·rintro i ns x Hi NY NN en si ⟨q,rfl,nq0,Rq⟩ k1;have mn:ns∈fs++ls:=au.mpr (.inr (NB (ax en)));have wn:=wide ns mn;obtain ⟨zs2,gz2,qz2⟩:=id Rq;obtain ⟨vx2,ex2,nx2⟩:=Dq qz2 (j:=P) (by lia);exists cm (bO.of gz2) ex2 ?_;exists ⟨_,ur,ns.getD P 0,kR P xt,rfl,nx2,szr ns mn _ (getD_in (by lia)),Rur.same si,by lia,szu,λb1 Hj nb1 sj Rb=>?_⟩;exists ⟨q,b1,ns,_,rfl,Rq.same sj,Rb,by rw[ag];lia,by lia,szr ns mn,λy hy=>?_,λr2 Hk nr2 sk Rk=>?_⟩
     ·obtain ⟨y',hy',rfl⟩:=ay.mp hy;exact szp ns mn y' hy'
     ·exact k1 _ _ (sj.trans sk) ⟨r2,rfl,s0h.none (si.none (sj.none nr2)),Rk⟩
    rintro yl Hk lp2 hlp2 sk gk prk nxk;have s0k:=s0h.trans sk;have Gk:bB K H Hk lp2 ((ls.eraseIdx t).map (xj P (kR P xt))):=⟨yl,gk,prk,fZ nxk⟩;have Ruk:=Rur.same sk;exists ⟨⟨_,bO.of (sk _ _ (seh _ _ gve))⟩,?_⟩;refine c8 (K:=K) (F:=mD K (λq=>(H q=none/\q≠fp)/\q≠lp)) (cI K Hk) (xj P (kR P xt)) (sk _ _ (seh _ _ gve)) (Paired.imp' (λ_ _ z=>mD.same (mD.same z seh) sk) pve) (by lia) (λa b=>a.same b) (λa b=>a.same b) ?_ ?_
    ·rintro i ns x Hi NY NN en si ⟨q,rfl,nq0,Rq⟩ k1;have mn:ns∈fs++ls:=au.mpr (.inl (ax en));have wn:=wide ns mn;obtain ⟨zs2,gz2,qz2⟩:=id Rq;obtain ⟨vx2,ex2,nx2⟩:=Dq qz2 (j:=P) (by lia);exists cm (bO.of gz2) ex2 ?_;exists ⟨_,ur,ns.getD P 0,kR P xt,rfl,nx2,szr ns mn _ (getD_in (by lia)),Ruk.same si,by lia,szu,λb1 Hj nb1 sj Rb=>?_⟩;exists ⟨q,b1,ns,_,rfl,Rq.same sj,Rb,by rw[ag];lia,by lia,szr ns mn,λy hy=>?_,λr2 Hl nr2 sl Rl=>?_⟩
     ·obtain ⟨y',hy',rfl⟩:=ay.mp hy;exact szp ns mn y' hy'
     ·exact k1 _ _ (sj.trans sl) ⟨r2,rfl,si.none (sj.none nr2),Rl⟩
    rintro yf Hl fp2 hfp2 sl gl prl nxl;have lyf:=prl.length;rw[ag] at lyf;have nfp2:H fp2=none:=s0k.none hfp2;have nlp2:H lp2=none:=s0h.none hlp2;have fl2:fp2≠lp2:=λz=>by rw[z,gk] at hfp2;cases hfp2
    have urk:Hk ur≠none:=by obtain ⟨_,gg,_⟩:=Ruk;rw[gg];exact λz=>nomatch z
    have urf:ur≠fp2:=λz=>urk (by rw[z];exact hfp2)
    have url:ur≠lp2:=λz=>by obtain ⟨_,gg,_⟩:=Rur;rw[z,hlp2] at gg;cases gg
    exists ⟨.inl ⟨rfl,_,bO.of gl⟩,?_⟩;exists iV gl (bc (by lia)) ?_;refine ⟨(s0k.trans sl).after nfp2,lp2,fp2,_,_,ps++[P],_,_,_,_,rfl,nlp2,nfp2,fl2,?_,aH,?_,by rw[av,av,ag];show fs.length+1=ps.length+1;lia,I2⟩
    ·obtain ⟨ul,gul,pul⟩:=Gk.toE;refine bB.ofE (P:=λq=>(H q=none/\q≠lp2)/\q≠fp2) (by rw[br (Ne.symm fl2)];exact sl _ _ gul) (Paired.imp' (λ_ _ ⟨q,e1,e2,e3⟩=>?_) pul) (λq h=>h.1.1) (λq h=>h.1.2);have qf:q≠fp2:=λz=>by obtain ⟨_,gg,_⟩:=e3;rw[z,hfp2] at gg;cases gg
     exact ⟨q,e1,⟨e2,qf⟩,(dC.same e3 sl).updL gl qf⟩
    ·have nn:=fZ nxl;refine bX (pN (λxs v hv ⟨q,e1,e2,e3⟩=>?_) prl) (.cons ⟨ur,rfl,⟨⟨nur0,urf⟩,url⟩,(Ruk.same sl).updL gl urf⟩ .nil);have qf:q≠fp2:=λz=>nn (by rw[<- z,<- e1];exact hv)
     exact ⟨q,e1,⟨⟨s0k.none e2,qf⟩,λz=>by rw[z,gk] at e2;cases e2⟩,dC.updL e3 gl qf⟩
  ·rintro σ' H' ⟨s',lp,fp,ls,fs,ps,vs,y1,y2,y3,rfl,nlp,nfp,fl,GL,gv,pv,hf,JI⟩;have I:=jlw _ _ _ JI;have D:=I.done hw;rw[List.take_left' hf] at D;obtain ⟨km,_⟩:=I.km;exists k fp fs ps H' nfp s' (bB.ofE gv pv (λq h=>h.1.1) (λq h=>h.1.2)) D km
theorem kK:aX ["_law_one","_law_other","_law_total","_law_k"] ["_law_one","_law_other"] (aK rV):=by walk_at "d"
theorem De (T:Txt K mg Z):cE P w K mg base fw 3 Z.zm Z.yY ["_law_one","_law_other"] (Be K):=by
 refine T.pR.F.ok kK (λvs H Q E h=>?_) (λcdv A outer s H vs Q E hr h=>?_)
 ·obtain ⟨p,q,xs,ys,rfl,_⟩:=h;rfl
 ·obtain ⟨p,q,xs,ys,rfl,hp,hq,hl,hz,⟨k1,j1,k2,j2,h1,h2,hkj⟩,kk⟩:=h
  refine ⟨_,(aw (a8 (i:=2) kK.nd rfl (Or.inl rfl) (cO (ae ar (ae ar aj))))
   (aw (eE PassesOwn.never rfl (b7 rfl T.range (ae (bL be (by rfl) T.len aU (ae (pv 0) aj)) aj)) (aM (i:=3) kK.nd)
    (aA (a8 (i:=2) kK.nd rfl (Or.inl rfl) (cL (kN T) hr T.gW (ae (pv 2) (ae (cL (jW T) hr T.fW (ae (aZ bS (pv 0) (pv 3)) (ae (aZ bS (pv 1) (pv 3)) aj))) aj))))))
   (aA (aY (pv 2))))),?_⟩
  refine aP (σ:=[some (.ref p),some (.ref q),none,none]) rfl ?_;obtain ⟨us,gu,qu⟩:=id hp;obtain ⟨ws,gw,qw⟩:=id hq;have lu:=qu.length;have lw:=qw.length;exists b6 λr0 H0 s0 g0=>?_
  exists ⟨_,_,rfl,.inl (bO.of (s0 _ _ gu)),?_⟩;exists ⟨by lia,by lia,?_⟩;refine eP (n:=us.length) (λi σ' H'=>aF H H'/\∃(r:V) (v:Option V),σ'=[some (.ref p),some (.ref q),some r,v]/\cb K H' (eL (xs.take i) (ys.take i)) r) ⟨s0,_,none,rfl,cb.mk g0 rfl⟩ ?_ ?_
  ·rintro i σ' H' hi ⟨s,r,v,rfl,hr⟩;have ix:i < xs.length:=by lia
   have iy:i < ys.length:=by lia
   obtain ⟨vx,ex,nx⟩:=Dq (Paired.imp' (λ_ _ z=>z.same s) qu) ix;obtain ⟨vy,ey,ny⟩:=Dq (Paired.imp' (λ_ _ z=>z.same s) qw) iy;exists cm (bO.of (s _ _ gu)) ex ?_;exists cm (bO.of (s _ _ gw)) ey ?_;exists ⟨_,_,_,_,rfl,nx,ny,h1.szn (getD_mem ix) (by lia),h2.szn (getD_mem iy) (by lia),λr3 H3 s3 n3=>?_⟩;exists ⟨_,_,_,_,rfl,hr.same s3,n3,Jl h1 h2 hz i hkj,Iw (h1.one (getD_mem ix)) (h2.one (getD_mem iy)) hkj,λr4 H4 s4 n4=>?_⟩;exists ⟨(s.trans s3).trans s4,_,_,rfl,by rw[Ap ix iy];exact n4⟩
  ·rintro σ' H' ⟨s,r,v,rfl,hr⟩;rw[aG (by lia),aG (by lia)] at hr;obtain ⟨t,rfl,ht⟩:=hr;exists kk _ H' s ⟨t,rfl,ht⟩
theorem Bq:aX ["_law_parts_here","_law_row_here"] ["_law_parts_here","_law_row_here"] (aK pz):=by walk_at "d"
theorem BL (T:Txt K mg Z):cE P w K mg base fw 4 Z.wN Z.v9 ["_law_parts_here","_law_row_here"] (EV K):=by
 refine T.nY.F.ok Bq (λvs H Q E h=>?_) (λcdv A outer s H vs Q E hr h=>?_)
 ·obtain ⟨r,a,H0,mv,pt,lk,z,rfl,_⟩:=h;rfl
 ·obtain ⟨r,a,H0,mv,pt,lk,z,rfl,PQ,D,Rz,lz,ff,k⟩:=h;refine ⟨_,(aA (aY (bW ["_law_j"] ["_law_row_here","_law_parts_here"] [1,0] (b7 rfl T.range (ae (bL be (by rfl) T.len aU (ae (pv 1) aj)) aj)) (λ_=>(aM (i:=0) (show ND9 ["_law_j","_law_row_here","_law_parts_here"] by decide +kernel) rfl (Or.inr rfl) (Or.inl rfl))) (λ_=>bZ) (λ_=>(cL (De T) hr T.pR (ae (pv 1) (ae (bW ["_law_some"] ["_law_j"] [0] (tu K (aZ (xy K (by rfl)) (pv 2) ar)) (λ_=>(aM (i:=0) (show ND9 ["_law_some","_law_j"] by decide +kernel))) (λ_=>bZ) (λ_=>(aZ (fu K (by rfl)) (pv 0) (pv 1)))) aj))))))),?_⟩;refine aP (σ:=[some (.ref r),some (.ref a)]) rfl ?_;have d8:=D.n8;obtain ⟨m,p,l,gt,mn,pn,ln,Gm,Gp,Gl⟩:=id PQ;obtain ⟨um,gm,qm,_⟩:=id Gm;obtain ⟨uz,gz,qz⟩:=id Rz;have lum:=qm.length;have luz:=qz.length;exists ⟨_,_,rfl,.inl (bO.of gz),?_⟩;rw[<- luz,lz];exists ⟨by lia,by lia,?_⟩;refine fb (n:=mv.length) (cb K) (λj=>eL (mv.map λxs=>xs.getD j 0) z) (by lia) (λa b=>a.same b) ?_ ?_
  ·rintro j H' NY NN hj s' k1;have gt':=s' _ _ gt;exists ⟨⟨_,bO.of (s' _ _ gm)⟩,?_⟩;refine c8 (K:=K) (as:=mv) (F:=cI K H0) (cb K) (λxs=>xs.getD j 0) (s' _ _ gm) (Paired.imp' (λ_ _ y=>cI.same y s') qm) (by lia) (λh s=>h.same s) (λh s=>h.same s) ?_ ?_
   ·rintro i xs x H2 NY2 NN2 ex s2 ⟨u,rfl,_,zs,gzs,qzs⟩ k2;have lx:=D.mw xs (ax ex);have lzs:=qzs.length;obtain ⟨w,v,e1,e2,_,nv⟩:=fo qzs (i:=j) (by lia);exists cm (bO.of gzs) (dS e2) ?_;refine k2 _ _ (aF.refl _) ?_;rw[aa,e1];exact nv
   rintro ys H2 c nc s2 gc pc _;walk_at "w";have mc:(mv.map λxs=>xs.getD j 0)∈bQ mv mv.length:=ax (JK hj);refine ⟨a,c,z,_,rfl,Rz.same (s'.trans s2),⟨ys,gc,pc⟩,by rw[ag,lz],by lia,(ff _ mc).symm,λq H3 s3 N3=>?_⟩;refine k1 _ _ (s2.trans s3) ?_;rw[GI];exact N3
  rintro ys H2 q nq s2 gq pq _;refine k q H2 nq s2 ⟨ys,gq,?_⟩;have e:((bQ mv mv.length).map λys=>eL ys z)=(List.range mv.length).map λj=>eL (mv.map λxs=>xs.getD j 0) z:=by unfold bQ;rw[lh];rfl
  rw[e];exact pq
theorem fA:aX ["_law_parts_here","_law_steps","_law_rows","_law_some","_law_turn"] ["_law_parts_here","_law_steps"] (aK nB):=by walk_at "d"
theorem zP (T:Txt K mg Z):cE P w K mg base fw 5 Z.uB Z.uf ["_law_parts_here","_law_steps"] (ET K):=by
 refine T.mB.F.ok fA (λvs H Q E h=>?_) (λcdv A outer s H vs Q E hr h=>?_)
 ·obtain ⟨r,tt,H0,mv,pt,lk,rfl,_⟩:=h;rfl
 ·obtain ⟨r,tt,H0,mv,pt,lk,rfl,hT,PQ,D,AF,k⟩:=h
  refine ⟨_,(aw (gF 2 ["_law_row_here"] [] [] fA.nd rfl rfl (ck (aZ bU (pv 0) ar)) (λ_=>(aM (i:=0) (show ND9 ["_law_row_here"] by decide +kernel))) (λ_=>bZ) (λ_=>(eX (ju K (by rfl)) (by rfl) T.list PyProof.Rows.boot_list (ae (pv 0) aj))))
   (aw (a8 (i:=3) fA.nd rfl (Or.inl rfl) (eF aj))
   (aw (eE PassesOwn.never rfl (b7 rfl T.range (ae (pv 1) aj)) (aM (i:=4) fA.nd)
    (aw (a8 (i:=3) fA.nd rfl (Or.inl rfl) (bI jN (pv 3) (pv 2)))
   (aA (gF 2 ["_law_row_here"] ["_law_parts_here"] [0] fA.nd rfl rfl (ck (pv 2)) (λ_=>(aM (i:=0) (show ND9 ["_law_row_here","_law_parts_here"] by decide +kernel))) (λ_=>bZ) (λ_=>(cL (BL T) hr T.nY (ae (pv 1) (ae (pv 0) aj))))))))
   (aA (aY (pv 3)))))),?_⟩
  refine aP (σ:=[some (.ref r),some (.int tt),none,none,none]) rfl ?_;have d1:=D.n8;have i4:=D.o4;have lt:(bQ mv mv.length).length=mv.length:=cW;have DT:=D.turn;have mwT:=DT.mw;have pwT:=DT.pw;obtain ⟨m,p,l,g,n1,n2,n3,Gm,Gp,Gl⟩:=id PQ;obtain ⟨up,gp,qp,_⟩:=id Gl;have lup:=qp.length;exists ⟨⟨_,bO.of gp⟩,?_⟩;refine c8 (K:=K) (F:=cI K H0) (cI K H) id gp qp (by lia) (λa b=>a.same b) (λa b=>a.same b) ?_ ?_
  ·rintro i ns x H' NY NN en s ⟨u,rfl,_,zs,gz,qz⟩ k1;exists ⟨u,zs,rfl,.inl (bO.of gz),λl1 hl1=>?_⟩;exact k1 _ _ (aF.new hl1) ⟨l1,rfl,s.none hl1,zs,aH,Paired.imp' (λ_ _ z=>z.same (aF.new hl1)) qz⟩
  rintro ys1 H1 rq1 hr1 s1 g1 pr1 nx1;rw[uJ] at pr1 nx1;have G1:bB K H H1 rq1 lk:=⟨ys1,g1,pr1,fZ nx1⟩;exists dB λsm0 H2 s2 nf gf=>?_
  have s02:=s1.trans s2;exists ⟨by lia,by lia,?_⟩;refine eP (n:=tt) (λt σ' H'=>aF H H'/\∃rq sm y,σ'=[some (.ref r),some (.int tt),some (.ref rq),some (.ref sm),y]/\H sm=none/\bB K H H' sm (kry (bQ mv mv.length) lk t)/\bB K H H' rq (lk.map (rX (bQ mv mv.length) t))) ⟨s02,rq1,sm0,_,rfl,s1.none nf,⟨[],gf,.nil,λz=>nomatch z⟩,by rw[show lk.map (rX (bQ mv mv.length) 0)=lk from uJ lk];exact G1.same s2⟩ ?_ ?_
  ·rintro t σ' H' ht ⟨s',rq,sm,y,rfl,nsm,Gs,Gq⟩;obtain ⟨us,gu,pu,_⟩:=id Gs;obtain ⟨zs,gz,qz,_⟩:=id Gq;have lz:=qz.length;rw[ag] at lz;have lu:=pu.length;rw[BV] at lu;have lb:t*lk.length<=20*4:=aI (by lia) i4;exists jK gu gz (aN (bc (by lia))) λcc H3 s3 nc gc=>?_
   have ek:kry (bQ mv mv.length) lk (t+1)=kry (bQ mv mv.length) lk t++lk.map (rX (bQ mv mv.length) t):=by
    rw[<- Cq,K2,List.flatten_append,Cq];simp
   have Gc:bB K H H3 cc (kry (bQ mv mv.length) lk (t+1)):=by
    rw[ek];exact ⟨_,gc,Paired.imp' (λ_ _ z=>cI.same z s3) (bX pu qz),fZ ⟨H',nc,bX pu qz⟩⟩
   have s03:=s'.trans s3;have g3:=s03 _ _ g;exists ⟨⟨_,bO.of (s3 _ _ gz)⟩,?_⟩;refine c8 (K:=K) (F:=cI K H) (cI K H) (qD (bQ mv mv.length)) (s3 _ _ gz) (Paired.imp' (λ_ _ z=>cI.same z s3) qz) (by rw[ag];lia) (λa b=>a.same b) (λa b=>a.same b) ?_ ?_
   ·rintro i ns v Ha NY NN en sa ⟨u,rfl,_,Ru⟩ k1;have mn:=ax en;obtain ⟨y0,hy0,rfl⟩:=ay.mp mn;have wy:=D.lw y0 hy0;have wyT:=pwT y0 hy0;exists ⟨r,u,H0,mv,pt,lk,_,rfl,(PQ.same s03).same sa,D,Ru,by rw[Kv wyT,lt],λxs hx=>((AF.row mwT pwT y0 hy0).fit mwT wyT (show t<=tt by lia)).1 xs hx,λz Hj nz sj Rz=>k1 _ _ sj ⟨z,rfl,s03.none (sa.none nz),Rz⟩⟩
   ·rintro ys Hb rr hrr sb gb prb nxb;have e:(lk.map (rX (bQ mv mv.length) t)).map (qD (bQ mv mv.length))=lk.map (rX (bQ mv mv.length) (t+1)):=by rw[lh];rfl
    rw[e] at prb nxb;exact ⟨s03.trans sb,rr,cc,_,rfl,s'.none nc,Gc.same sb,ys,gb,prb,fZ nxb⟩
  ·rintro σ' H' ⟨s',rq,sm,y,rfl,nsm,Gs,Gq⟩;exists k sm H' nsm s' Gs
theorem sU:aX ["_law_rows","_law_n","_law_heads"] ["_law_rows","_law_n"] (aK pH):=by walk_at "d"
theorem nM (T:Txt K mg Z):cE P w K mg base fw 1 Z.wY Z.wj ["_law_rows","_law_n"] (xU K):=by
 refine T.iE.F.ok sU (λvs H Q E h=>?_) (λcdv A outer s H vs Q E hr h=>?_)
 ·obtain ⟨p,n,H0,R,ps,rfl,_⟩:=h;rfl
 ·obtain ⟨p,n,H0,R,ps,rfl,G,r100,n100,RR,k⟩:=h
  refine ⟨_,(aw (a8 (i:=2) sU.nd rfl (Or.inr rfl) (bW ["_law_row_here"] [] [] (ck (pv 0)) (λ_=>(aM (i:=0) (show ND9 ["_law_row_here"] by decide +kernel))) (λ_=>bZ) (λ_=>(MK K cM PySem.F.slot_list_index PySem.F.type_list_index IA (bW ["_law_one"] [] [] (tu K (pv 0)) (λ_=>(aM (i:=0) (show ND9 ["_law_one"] by decide +kernel))) (λ_=>bZ) (λ_=>(gG (BG K (by rfl) (zR hr)) (pv 0) (cO (ae ar (ae ar aj))) (bH _)))) (ae mH aj)))))
   (aA (aY (bW ["_law_at"] ["_law_heads"] [2] (b7 rfl T.range (ae (pv 1) aj)) (λ_=>(aM (i:=0) (show ND9 ["_law_at","_law_heads"] by decide +kernel))) (λ_=>yo (bA (l5 K (by rfl)) (pv 0) (pv 1) (by with_unfolding_all rfl))) (λ_=>(pv 0)))))),?_⟩
  refine aP (σ:=[some (.ref p),some (.int n),none]) rfl ?_;obtain ⟨rows,RR⟩:=RR;obtain ⟨vs,gv,qv,_⟩:=id G;have lv:=qv.length;have lR:=RR.1;exists ⟨⟨_,bO.of gv⟩,?_⟩;refine dd (K:=K) (xs:=vs) (λi ys H'=>aF H H'/\ys=b9 (ps.take i)) (aN (bc (by lia))) ⟨aF.refl _,rfl⟩ (λi ys H' _ ⟨s,_⟩=>bO.of (s _ _ gv)) ?_ ?_
  ·rintro i v ys H' hx hlen ⟨s',rfl⟩;obtain ⟨row,er,u,rfl,_,Ru⟩:=cJ qv hx;have hi:i < ps.length:=by have:=(aB.mp er).1;lia
   have wr:=RR.2.1 row (ax er);have low:=RR.2.2.low i hi;obtain ⟨us,gu,qu⟩:=Ru.same s';have lu:=qu.length;exists ⟨⟨_,bO.of gu⟩,?_⟩;refine c8 (K:=K) (as:=row) (F:=cb K) (λ_ b y=>y=V.bl b) (λy=>decide (y≠0)) gu qu (by lia) (λh s=>h.same s) (λh _=>h) ?_ ?_
   ·rintro i2 c x H2 NY NN ec s2 nc k1;exists b6 λt6 H6 s6 g6=>?_
    exists ⟨_,_,Fn,c,0,by decide,nc.same s6,cb.mk (q:=0) g6 rfl,?_⟩;refine k1 _ _ s6 ?_;rw[decide_not]
   rintro ys2 H2 l hl2 s2 g2 pr2 _;have ey:ys2=(row.map λy=>decide (y≠0)).map V.bl:=yr pr2;rw[ey] at g2;exists ⟨.inl ⟨rfl,_,bO.of g2⟩,?_⟩;walk_at "w"
   have at_:∀j,j < row.length->(row.map λy=>decide (y≠0))[j]?=some (decide (bJ R i j≠0)):=λj hj=>by
    rw[aD,af hj,jf er,aa,af hj];rfl
   have one:=RR.2.2.unit i hi i hi;rw[if_pos rfl] at one;refine ⟨l,_,true,ps.getD i 0,rfl,rfl,g2,by rw[at_ _ (by lia),one];rfl,λj hj z=>?_,?_⟩
   ·rw[at_ j (by lia),RR.2.2.lead i hi j hj] at z;exact absurd z (by decide)
   refine ⟨s'.trans s2,?_⟩;rw[take_snoc (show ps[i]?=some (ps.getD i 0) by rw[aa,af hi];rfl)];unfold b9;rw[bK];rfl
  rintro ys H1' hy ⟨s1',rfl⟩ l hl;rw[aG (by lia)];have sn:aF H1' (upd H1' l (.lst (b9 ps))):=aF.new hl;have g1:(upd H1' l (.lst (b9 ps))) l=some (.lst (b9 ps)):=aH;generalize upd H1' l (.lst (b9 ps))=H1 at sn g1 ⊢;have s1:=s1'.trans sn;exists ⟨by lia,by lia,?_⟩;refine gR (n:=n) (λi ys H'=>aF H1 H'/\ys=b9 (c4 ps i)) (aN (bc (by lia))) ⟨aF.refl _,rfl⟩ ?_ ?_
  ·rintro i ys H' hi hlen ⟨s',rfl⟩;rw[jy];exists ⟨l,b9 ps,rfl,.inl (bO.of (s' _ _ g1)),rfl,vz,?_⟩;rw[yO];by_cases e:i∈ps
   ·rw[decide_eq_true e];exists ⟨s',?_⟩;rw[kB,if_neg (by simpa using e)]
   ·rw[decide_eq_false e,show (if true=true then !false else false)=true from rfl];exists ⟨s',?_⟩;rw[kB,if_pos e];unfold b9;rw[bK];rfl
  ·rintro ys H2 hy ⟨s2,rfl⟩ r hr;exact k r _ (s1.none (s2.none hr)) ((s1.trans s2).trans (aF.new hr)) aH
theorem Bm:aX ["_law_n","_law_at"] ["_law_n","_law_at"] (aK o7):=by walk_at "d"
theorem tE (T:Txt K mg Z):cE P w K mg base fw 1 Z.wG Z.vY ["_law_n","_law_at"] (ES K):=by
 refine T.jY.F.ok Bm (λvs H Q E h=>?_) (λcdv A outer s H vs Q E hr h=>?_)
 ·obtain ⟨n,a,rfl,_⟩:=h;rfl
 ·obtain ⟨n,a,rfl,n100,k⟩:=h;refine ⟨_,(aA (aY (bW ["_law_j"] ["_law_at"] [1] (b7 rfl T.range (ae (pv 0) aj)) (λ_=>(aM (i:=0) (show ND9 ["_law_j","_law_at"] by decide +kernel))) (λ_=>bZ) (λ_=>(cO (ae (eX j9 (by rfl) T.int PyProof.Rows.boot_int (ae (gG eY (pv 0) (pv 1) (bH _)) aj)) (ae ar aj))))))),?_⟩;refine aP (σ:=[some (.int n),some (.int a)]) rfl ?_;exists ⟨by lia,by lia,?_⟩;refine fb (n:=n) (cb K) (λ(j:Nat)=>(((if decide ((j:Int)=(a:Int))=true then 1 else 0:Int)):Rat)) (by lia) (λa b=>a.same b) ?_ ?_
  ·rintro j Hz NY2 NN2 hj sz k2;exists b6 λt Hy sy gy=>?_
   exact k2 _ _ sy (cb.mk gy rfl)
  ·rintro ys Hz t ht sz g pr nx
   have e:(List.range n).map (λ(j:Nat)=>(((if decide ((j:Int)=(a:Int))=true then 1 else 0:Int)):Rat))=iN n ((a:Nat):Int):=by
    unfold iN;refine Cz λj _=>?_
    by_cases q:(j:Int)=(a:Int)
    ·rw[if_pos (decide_eq_true q),if_pos q];rfl
    ·rw[if_neg (λz=>q (of_decide_eq_true z)),if_neg q];rfl
   rw[e] at pr;exact k t Hz ht sz ⟨ys,g,pr⟩
theorem dD:aX ["_law_parts_here","_law_n","_law_rows","_law_heads","_law_found","_law_at","_law_row_here","_law_k"] ["_law_parts_here"] (aK lQ):=by walk_at "d"
theorem yy (T:Txt K mg Z):cE P w K mg base fw 6 Z.qZ Z.qN ["_law_parts_here"] (ER K):=by
 refine T.ku.F.ok dD (λvs H Q E h=>?_) (λcdv A outer s H vs Q E hr h=>?_)
 ·obtain ⟨r,S,H0,mv,pt,lk,rfl,_⟩:=h;rfl
 ·obtain ⟨r,S,H0,mv,pt,lk,rfl,PQ,D,AD,LW,LN,k⟩:=h
  refine ⟨_,(aw (a8 (i:=1) dD.nd rfl (Or.inr rfl) (bL be (by rfl) T.len aU (ae (aZ bU (pv 0) ar) aj)))
   (aw (a8 (i:=2) dD.nd rfl (Or.inr rfl) (cL (tG T) hr T.jZ (ae (cL (zP T) hr T.mB (ae (pv 0) (ae (pv 1) aj))) (ae (pv 1) aj))))
   (aw (gF 3 ["_law_at"] ["_law_rows","_law_n"] [2,1] dD.nd rfl rfl (b7 rfl T.range (ae (pv 1) aj)) (λ_=>(aM (i:=0) (show ND9 ["_law_at","_law_rows","_law_n"] by decide +kernel))) (λ_=>yo (bA (l5 K (by rfl)) (pv 0) (cL (nM T) hr T.iE (ae (pv 1) (ae (pv 2) aj))) (by with_unfolding_all rfl))) (λ_=>(pv 0)))
   (aw (a8 (i:=4) dD.nd rfl (Or.inl rfl) (eF aj))
   (aw (eE PassesOwn.never rfl (ck (cL (nM T) hr T.iE (ae (pv 2) (ae (pv 1) aj)))) (aM (i:=5) dD.nd)
    (aw (a8 (i:=6) dD.nd rfl (Or.inl rfl) (cL (tE T) hr T.jY (ae (pv 1) (ae (pv 5) aj))))
   (aw (eE PassesOwn.never rfl (b7 rfl T.range (ae (bL be (by rfl) T.len aU (ae (pv 2) aj)) aj)) (aM (i:=7) dD.nd)
    (aA (eV (cO (ae (bI gM ar (aZ bU (aZ bS (aZ bS (pv 2) (pv 7)) (pv 5)) ar)) (ae (aZ bU (aZ bS (aZ bS (pv 2) (pv 7)) (pv 5)) ar) aj))) (fB (pv 6) (aZ bS (pv 3) (pv 7)) set_list))))
   (aA (ji (tx cM dm dk iZ (pv 4) (ae (pv 6) aj)))))))
   (aA (aY (cL (tG T) hr T.jZ (ae (pv 4) (ae (pv 1) aj)))))))))),?_⟩
  refine aP (σ:=[some (.ref r),none,none,none,none,none,none,none]) rfl ?_;have n8:=D.n8;have o4:=D.o4;obtain ⟨m0,p0,l0,gr,_,_,_,Gm,_,_⟩:=id PQ;obtain ⟨ms,gm,qm,_⟩:=id Gm;have lm:=qm.length;exists ⟨_,_,rfl,.inl (bO.of gm),?_⟩;rw[show ((ms.length:Nat):Int)=(mv.length:Int) by lia];exists ⟨r,mv.length,H0,mv,pt,lk,rfl,by lia,PQ,D,AD,λq H1 nq s1 G1=>?_⟩;have et:(bQ mv mv.length).length=mv.length:=cW;have wk:∀xs∈kry (bQ mv mv.length) lk mv.length,xs.length=mv.length:=fq et (λxs hx=>D.lw xs hx) _
  have lK:(kry (bQ mv mv.length) lk mv.length).length<=100:=by
   rw[BV];exact ai (aI n8 o4) (by decide)
  exists ⟨q,mv.length,S,H,_,rfl,G1,lK,by lia,wk,LW,λl R ps H2 nl s2 G2 RR _=>?_⟩;have lR:=RR.1;have pl:=RR.le;have fl':=Cd (ps:=ps) (i:=mv.length);have s02:=s1.trans s2;exists ⟨by lia,by lia,?_⟩;refine gR (n:=mv.length) (λi ys H'=>aF H2 H'/\ys=b9 (c4 (c4 ps mv.length) i)) (aN (bc (by lia))) ⟨aF.refl _,rfl⟩ ?_ ?_
  ·rintro i ys H' hi hlen ⟨s',rfl⟩;rw[jy];exists ⟨l,mv.length,H1,R,ps,rfl,G2.same s',by lia,by lia,⟨_,RR⟩,λf1 H3 nf s3 g3=>?_⟩;exists ⟨f1,b9 (c4 ps mv.length),rfl,.inl (bO.of g3),rfl,vz,?_⟩;rw[yO];by_cases e:i∈c4 ps mv.length
   ·rw[decide_eq_true e];exists ⟨s'.trans s3,?_⟩;rw[kB,if_neg (by simpa using e)]
   ·rw[decide_eq_false e,show (if true=true then !false else false)=true from rfl];exists ⟨s'.trans s3,?_⟩;rw[kB,if_pos e];unfold b9;rw[bK];rfl
  rintro ys H3' hy ⟨s3',rfl⟩ hl hhl;rw[OG RR];have sn:aF H3' (upd H3' hl (.lst (b9 ps))):=aF.new hhl;have gh:(upd H3' hl (.lst (b9 ps))) hl=some (.lst (b9 ps)):=aH;generalize upd H3' hl (.lst (b9 ps))=H3 at sn gh ⊢;have s23:=s3'.trans sn;have s03:=s02.trans s23;exists dB λfl H4 s4 nfl gfl=>?_
  exists ⟨l,mv.length,H1,R,ps,rfl,(G2.same s23).same s4,by lia,by lia,⟨_,RR⟩,λfr H5 nfr s5 g5=>?_⟩;have gfl5:=s5 _ _ gfl;have frl:fr≠fl:=λz=>by rw[z,gfl] at nfr;cases nfr
  obtain ⟨vs,gv,qv,_⟩:=G2.same s23;have lv:=qv.length;exists ⟨⟨_,bO.of g5⟩,?_⟩;refine jD (K:=K) (a:=fr) (xs:=b9 (c4 ps mv.length)) (λi σ' H'=>aF H3 H'/\oG (λq=>q=fl) H5 H'/\(∃y1 y2 y3,σ'=[some (.ref r),some (.int mv.length),some (.ref l),some (.ref hl),some (.ref fl),y1,y2,y3])/\∃ys,H' fl=some (.lst ys)/\Paired (Pt K H fl H') (((c4 ps mv.length).take i).map (tI R ps mv.length)) ys) ⟨s4.trans s5,oG.of (aF.refl _),⟨_,_,_,rfl⟩,[],gfl5,.nil⟩ (λi σ' H' _ ⟨_,kp,_⟩=>bO.of (kp _ _ g5 λz=>absurd z frl)) ?_ ?_
  ·rintro i v σ' H' hv ⟨sH,kp,⟨y1,y2,y3,rfl⟩,ys,gys,pr⟩;obtain ⟨a,ea,rfl⟩:=tJ hv;have ma:=ax ea;obtain ⟨an,ap⟩:=js.mp ma;have il:=(aB.mp ea).1;exists ⟨mv.length,a,rfl,by lia,λu H6 nu s6 R6=>?_⟩;rw[<- Fd (R:=R) (ps:=ps)] at R6;have ul:u≠fl:=λz=>by rw[z,gys] at nu;cases nu
   have s36:=sH.trans s6;exists ⟨_,_,rfl,.inl (bO.of (s36 _ _ gv)),?_⟩;rw[show ((vs.length:Nat):Int)=(ps.length:Int) by lia];exists ⟨by lia,by lia,?_⟩;refine eP (n:=ps.length) (λj σ' H7=>aF H' H7/\(∃y,σ'=[some (.ref r),some (.int mv.length),some (.ref l),some (.ref hl),some (.ref fl),some (.int a),some (.ref u),y])/\dC K H7 u (Ej R ps mv.length a j)) ⟨s6,⟨_,rfl⟩,R6⟩ ?_ ?_
   ·rintro j σ' H7 hj ⟨s7,⟨y,rfl⟩,R7⟩;have s37:=sH.trans s7;obtain ⟨row,vr,er,ev,mr,q',rfl,_,Rr⟩:=fo (Paired.imp' (λ_ _ z=>cI.same z s37) qv) (i:=j) (by lia);have wr:=RR.2.1 row mr;obtain ⟨zs,gz,qz⟩:=id Rr;obtain ⟨vx,evx,nvx⟩:=Dq qz (j:=a) (by lia);obtain ⟨tq,rfl,sq⟩:=id nvx;have gv7:=s37 _ _ gv;have gh7:=s37 _ _ gh
    have eh:(b9 ps)[j]?=some (V.int (ps.getD j 0)):=by
     unfold b9;rw[aD,af hj,aa,af hj];rfl
    exists cm (bO.of gv7) (dS ev) ?_;exists cm (bO.of gz) evx ?_;exists cm (bO.of gv7) (dS ev) ?_;exists cm (bO.of gz) evx ?_;exists b6 λt8 H8 s8 g8=>?_
    have n8':cb K H8 (-(row.getD a 0)) (.ref t8):=cb.mk g8 KE;obtain ⟨ws,gw,qw⟩:=R7.same s8;have lw:=qw.length;rw[jO] at lw;have low:=RR.2.2.low j hj;exists cm (bO.of (s8 _ _ gh7)) (dS eh) ?_;exists eo gw (eK (by lia)) rfl ?_;refine ⟨(s7.trans s8).after nu,⟨_,rfl⟩,?_⟩;rw[<- Fe RR hj ap,jf er];exact ⟨_,aH,gL (Paired.imp' (λ_ _ z=>cb.updL z gw) qw) _ (n8'.updL gw)⟩
   rintro σ' H7 ⟨s7,⟨y,rfl⟩,R7⟩;have gys7:=s7 _ _ gys;have lys:=pr.length;rw[ag,cN] at lys;exists ⟨.inl ⟨rfl,_,bO.of gys7⟩,?_⟩;exists iV gys7 (bc (by lia)) ?_;refine ⟨(sH.trans s7).after nfl,(kp.trans (oG.of s7)).trans (oG.set gys7 rfl),⟨_,_,_,rfl⟩,_,aH,?_⟩;rw[take_snoc ea,bK];refine bX (Paired.imp' (λ_ _ ⟨q,e,nq',ne,Rq⟩=>⟨q,e,nq',ne,(Rq.same s7).updL gys7 ne⟩) pr) (.cons ⟨u,rfl,s03.none (sH.none nu),ul,R7.updL gys7 ul⟩ .nil)
  rintro σ' H6 ⟨sH,kp,⟨y1,y2,y3,rfl⟩,ys,gys,pr⟩;rw[aG (by rw[iq];exact ak _)] at pr;obtain ⟨S',LS⟩:=LN R ps RR;have nc:=mJ RR
  have Gf:bB K H H6 fl (a7 R ps mv.length):=⟨ys,gys,Paired.imp' (λ_ _ ⟨q,e,nq',_,Rq⟩=>⟨q,e,nq',Rq⟩) pr,λz=>by
   obtain ⟨_,_,q,e,_,ne,_⟩:=cP pr z;cases e;exact ne rfl⟩
  exists ⟨fl,mv.length,S',H,_,rfl,Gf,by lia,by lia,nP,LS,λr9 U pu H9 n9 s9 G9 RN _=>?_⟩;have s09:=s03.trans (sH.trans s9);exact k r9 R ps U pu H9 RR RN ((s03.trans sH).none n9) s09 (G9.weakN λq h=>(s03.trans sH).none h)
theorem Bj:aX ["row","bottom"] ["row","bottom"] (aK o5):=by walk_at "d"
theorem nI (T:Txt K mg Z):cE P w K mg base fw 1 Z.wD Z.vW ["row","bottom"] (CN K):=by
 refine T.iu.F.ok Bj (λvs H Q E h=>?_) (λcdv A outer s H vs Q E hr h=>?_)
 ·obtain ⟨p,ns,M,B,rfl,_⟩:=h;rfl
 ·obtain ⟨p,ns,M,B,rfl,hp,hl,hz,hB,sB,q⟩:=h;refine ⟨_,(aA (aY (bW ["value"] ["bottom"] [1] (ck (pv 0)) (λ_=>(aM (i:=0) (show ND9 ["value","bottom"] by decide +kernel))) (λ_=>bZ) (λ_=>(bI cQ (aZ (xy K (by rfl)) (pv 0) ar) (bI ik (pv 1) (aZ (xy K (by rfl)) (pv 0) ar))))))),?_⟩;refine aP (σ:=[some (.ref p),some (.int B)]) rfl ?_;obtain ⟨xs,gx,qx⟩:=id hp;have lx:=qx.length;exists ⟨⟨_,bO.of gx⟩,?_⟩;refine dd (K:=K) (xs:=xs) (λi ys H'=>H'=H/\ys=(eS (ns.take i) B).map V.int) (aN (bc (by lia))) ⟨rfl,rfl⟩ (λi ys H' _ ⟨e,_⟩=>by subst e;exact bO.of gx) ?_ ?_
  ·rintro i x ys H' hx hlen ⟨rfl,rfl⟩;obtain ⟨n,en,r,rfl,hr1⟩:=cJ qx hx;have nz:=hz.2.2 n (ax en);have sn:Sz 4400 n.2:=Cf hz.1 nz.2.1 hz.2.1;exists fe (show oI _ _ from ⟨by lia,sn.mono (by decide)⟩) ?_;rw[cA _ (by lia)]
   have sq:Sz 4400 (B / n.2):=sB.le (by
    rw[Nw (by lia)];exact Nat.div_le_self ..)
   exists fe (show fh _ _ from .inr ⟨_,_,nz.2.2,sq,by decide⟩) ?_;exact ⟨rfl,by rw[take_snoc en];simp [eS]⟩
  ·rintro ys H' hy ⟨rfl,rfl⟩ l hl';exact q l _ hl' (aF.new hl') (by rw[aH,aG (by lia)])
theorem fj:aX ["wholes","multiple","whole"] ["wholes"] (aK ig):=by walk_at "d"
theorem rZ (T:Txt K mg Z):cE P w K mg base fw 2 Z.kU Z.kT ["wholes"] (HK K):=by
 refine T.gO.F.ok fj (λvs H Q E h=>?_) (λcdv A outer s H vs Q E hr h=>?_)
 ·obtain ⟨p,bs,M,rfl,_⟩:=h;rfl
 ·obtain ⟨p,bs,M,rfl,hp,hM,sM,hb,q⟩:=h
  refine ⟨_,(aw (a8 (i:=1) fj.nd rfl (Or.inl rfl) ar)
   (aw (eE PassesOwn.never rfl (ck (pv 0)) (aM (i:=2) fj.nd)
    (aA (a8 (i:=1) fj.nd rfl (Or.inl rfl) (bI cQ (pv 1) (bI ik (pv 2) (cL (ip T) hr T.eI (ae (pv 1) (ae (pv 2) aj))))))))
   (aA (aY (pv 1))))),?_⟩
  refine aP (σ:=[some (.ref p),none,none]) rfl ?_;exists ⟨⟨_,hp⟩,?_⟩;refine jD (K:=K) (a:=p) (xs:=bs.map V.int) (λi σ' H'=>H'=H/\∃x,σ'=[some (.ref p),some (.int (vB (bs.take i) 1)),x]) ⟨rfl,none,rfl⟩ (λi σ' H' _ ⟨e,_⟩=>by subst e;exact hp) ?_ ?_
  ·rintro i x σ' H' hx ⟨rfl,y,rfl⟩;rw[aD] at hx
   obtain ⟨b,eb,rfl⟩:∃b,bs[i]?=some b/\x=.int b:=by
    cases e:bs[i]? with
    | none=>rw[e] at hx;cases hx
    | some b=>rw[e] at hx;cases hx;exact ⟨b,rfl,rfl⟩
   have b1:=hb b (ax eb);have sb:Sz 4400 b:=Cf hM b1.2 sM;have ht:∀c∈bs.take i,0 < c/\c∣M:=λc hc=>hb c (cH hc)
   have msz:Sz 4400 (vB (bs.take i) 1):=Cf hM (xx (by decide) (Int.one_dvd _) ht) sM;generalize hm:vB (bs.take i) 1=m at msz ⊢;have gp:0 < g m b:=yP (by lia);exists ⟨m,b,rfl,?_⟩;exists fe (show oI _ _ from ⟨by lia,(Ph b1.1 sb).mono (by decide)⟩) ?_;rw[cA _ (by lia)];exists fe (show fh _ _ from .inr ⟨_,_,msz,sb.hi (t:=m) (by lia),by decide⟩) ?_;exists ⟨rfl,_,by rw[take_snoc eb,Aj,hm];rfl⟩
  ·rintro σ' H' ⟨rfl,y,rfl⟩;walk_at "w";rw[aG (by simp)];exact q
theorem uT:aX ["row"] ["row"] (aK jJ):=by walk_at "d"
theorem iY (T:Txt K mg Z):cE P w K mg base fw 3 Z.oF Z.oB ["row"] (HL K):=by
 refine T.eZ.F.ok uT (λvs H Q E h=>?_) (λcdv A outer s H vs Q E hr h=>?_)
 ·obtain ⟨p,ns,M,rfl,_⟩:=h;rfl
 ·obtain ⟨p,ns,M,rfl,hp,hl,hz,q⟩:=h;refine ⟨_,(aA (aY (cL (rZ T) hr T.gO (ae (bW ["value"] [] [] (ck (pv 0)) (λ_=>(aM (i:=0) (show ND9 ["value"] by decide +kernel))) (λ_=>bZ) (λ_=>(aZ (xy K (by rfl)) (pv 0) ar))) aj)))),?_⟩;refine aP (σ:=[some (.ref p)]) rfl ?_;obtain ⟨xs,gx,qx⟩:=id hp;have lx:=qx.length;exists ⟨⟨_,bO.of gx⟩,?_⟩;refine dd (K:=K) (xs:=xs) (λi ys H'=>H'=H/\ys=((ns.take i).map (·.2)).map V.int) (aN (bc (by lia))) ⟨rfl,rfl⟩ (λi ys H' _ ⟨e,_⟩=>by subst e;exact bO.of gx) ?_ ?_
  ·rintro i x ys H' hx hlen ⟨rfl,rfl⟩;obtain ⟨n,en,r,rfl,hr1⟩:=cJ qx hx;exists ⟨rfl,by rw[take_snoc en];simp⟩
  ·rintro ys H' hy ⟨rfl,rfl⟩ l hl';exists ⟨l,ns.map (·.2),M,rfl,bO.of (by rw[aH,aG (by lia)]),hz.1,hz.2.1,λb hb=>?_,?_⟩
   ·obtain ⟨n,hn,rfl⟩:=ay.mp hb;exact ⟨(hz.2.2 n hn).1,(hz.2.2 n hn).2.1⟩
   ·exact q _ (aF.new hl')
theorem qA:aX ["lines","begin","place","at"] ["lines","begin","place"] (aK nk):=by walk_at "d"
theorem zM (T:Txt K mg Z):cE P w K mg base fw 1 Z.ux Z.t9 ["lines","begin","place"] Ac:=by
 refine T.mh.F.ok qA (λvs H Q E h=>?_) (λcdv A outer s H vs Q E hr h=>?_)
 ·obtain ⟨l,p,ls,b,c,rfl,_⟩:=h;rfl
 ·obtain ⟨l,p,ls,b,c,rfl,G,l1000,b1000,hc,k1,k2⟩:=h
  refine ⟨_,(aw (eE PassesOwn.never rfl (Gj rfl T.range (ae (pv 1) (ae (bL be (by rfl) T.len aU (ae (pv 0) aj)) aj))) (aM (i:=3) qA.nd)
    (aA (cZ (bA tD (aZ bS (aZ bS (pv 0) (pv 3)) (pv 2)) ar (bH _)) (aA (aY (pv 3))) bY)))
   (aA (aY BB))),?_⟩
  refine aP (σ:=[some (.ref p),some (.int b),some (.int c),none]) rfl ?_;obtain ⟨_,xs,gx,qx⟩:=id G;have lx:=qx.length;exists ⟨_,_,rfl,.inl (bO.of gx),?_⟩;rw[<- lx];exists ⟨⟨by lia,by lia,by lia,by lia⟩,?_⟩;refine Am (lo:=(b:Int)) (n:=((ls.length:Int) - (b:Int)).toNat) (λi σ' H'=>H'=H/\(∃y,σ'=[some (.ref p),some (.int b),some (.int c),y])/\∀s,b<=s->s < b+i->dF ls s c=0) ⟨rfl,⟨_,rfl⟩,λs h1 h2=>absurd h2 (by lia)⟩ ?_ ?_
  ·rintro i σ' H' hi ⟨rfl,⟨y,rfl⟩,hz⟩;rw[show ((b:Int)+(i:Int))=((b+i:Nat):Int) by lia];obtain ⟨zs,v,ez,ev,mz,q,rfl,_,gq⟩:=fo qx (i:=b+i) (by lia);exists cm (bO.of gx) (dS ev) ?_;exists cm (bO.of gq) (CC (hc zs mz)) ?_;walk_at "w";have ef:=LZ (c:=c) ez;by_cases e:zs.getD c 0=0
   ·rw[decide_eq_true e];exists ⟨rfl,⟨_,rfl⟩,λs h1 h2=>?_⟩;by_cases e2:s=b+i
    ·rw[e2,ef,e];rfl
    ·exact hz s h1 (by lia)
   ·rw[decide_eq_false e];exists k1 (b+i) (by lia) (by lia) (by rw[ef];exact O4.mpr e)
  ·rintro σ' H' ⟨rfl,⟨y,rfl⟩,hz⟩;exists k2 λt h1 h2=>hz t h1 (by lia)
theorem m6:aX ["lines","at","place","before","used","by","swept"] ["lines","at","place","before"] (aK va):=by walk_at "d"
theorem Ei (T:Txt K mg Z):cE P w K mg base fw 1 Z.AS Z.Ax ["lines","at","place","before"] Ad:=by
 refine T.sD.F.ok m6 (λvs H Q E h=>?_) (λcdv A outer s H vs Q E hr h=>?_)
 ·obtain ⟨l,p,ls,kk,c,n,b,rfl,_⟩:=h;rfl
 ·obtain ⟨l,p,ls,kk,c,n,b,rfl,hl,G,l1000,hk,hw,n1000,hc,b0,sb,hs,k⟩:=h
  refine ⟨_,(aw (a8 (i:=4) m6.nd rfl (Or.inr rfl) (aZ bS (pv 0) (pv 1)))
   (aw (a8 (i:=5) m6.nd rfl (Or.inr rfl) (aZ bS (pv 4) (pv 2)))
   (aw (gF 6 ["line"] ["used","by","place","before"] [4,5,2,3] m6.nd rfl rfl (ck (pv 0)) (λ_=>(aM (i:=0) (show ND9 ["line","used","by","place","before"] by decide +kernel) rfl (Or.inr rfl) (Or.inl rfl))) (λ_=>bZ) (λ_=>(bW ["mine","yours"] ["by","line","place","before"] [2,0,3,4] (Ii K rfl T.zip (ae (pv 0) (ae (pv 1) aj))) (λ_=>(tw K 2 (c7 (aM (i:=0) (show ND9 ["mine","yours","by","line","place","before"] by decide +kernel)) (c7 (aM (i:=1) (show ND9 ["mine","yours","by","line","place","before"] by decide +kernel)) jV)))) (λ_=>bZ) (λ_=>(bI ik (bI gM (bI cQ (pv 2) (pv 0)) (bI cQ (aZ (fu K (by rfl)) (pv 3) (pv 4)) (pv 1))) (pv 5))))))
   (aw (eV (pv 4) (fB (pv 6) (pv 1) set_list))
   (aA (aY (pv 6))))))),?_⟩
  refine aP (σ:=[some (.ref p),some (.int kk),some (.int c),some (.int b),none,none,none]) rfl ?_;obtain ⟨pl,xs,gx,qx⟩:=id G;have lx:=qx.length;obtain ⟨zk,vk,ek,evk,mk,qk,rfl,qkl,gk⟩:=fo qx hk;have wk:=hw zk mk;have ek':ls.getD kk []=zk:=by rw[aa,ek];rfl
  exists cm (bO.of gx) (dS evk) ?_;exists cm (bO.of gk) (CC (by lia)) ?_;exists ⟨⟨_,bO.of gx⟩,?_⟩;refine dd (K:=K) (xs:=xs) (λi ys H'=>aF H H'/\Paired (FP l H') ((ls.take i).map λzs=>List.zipWith (λx y=>(zk.getD c 0*x - zs.getD c 0*y).fdiv b) zs zk) ys) (aN (bc (by lia))) ⟨aF.refl _,.nil⟩ (λi ys H' _ ⟨s,_⟩=>bO.of (s _ _ gx)) ?_ ?_
  ·rintro i v ys0 H' hx hlen ⟨s',pr⟩;obtain ⟨zs,ec,q,rfl,ql,gq⟩:=cJ qx hx;have mz:=ax ec;have wz:=hw zs mz;have gq':=s' _ _ gq;have gk':=s' _ _ gk;exists ⟨⟨_,bO.of gq'⟩,⟨_,bO.of gk'⟩,?_⟩;refine y4 (K:=K) (xs:=zs.map V.int) (ws:=zk.map V.int) (λj ys H2=>aF H' H2/\ys=((List.zipWith (λx y=>(zk.getD c 0*x - zs.getD c 0*y).fdiv b) zs zk).take j).map V.int) (aN (bc (by rw[ag];lia))) (by rw[ag,ag];lia) ⟨aF.refl _,rfl⟩ (λj ys H2 _ ⟨s2,_⟩=>⟨bO.of (s2 _ _ gq'),bO.of (s2 _ _ gk')⟩) ?_ ?_
   ·rintro j v1 v2 ys H2 r h1 h2 hy ⟨s2,rfl⟩ hr
    obtain ⟨x,ex,rfl⟩:∃x,zs[j]?=some x/\V.int x=v1:=by
     rw[aD] at h1;cases e:zs[j]? with
     | none=>rw[e] at h1;cases h1
     | some x=>rw[e] at h1;exact ⟨x,rfl,cf h1⟩
    obtain ⟨y,ey,rfl⟩:∃y,zk[j]?=some y/\V.int y=v2:=by
     rw[aD] at h2;cases e:zk[j]? with
     | none=>rw[e] at h2;cases h2
     | some x=>rw[e] at h2;exact ⟨x,rfl,cf h2⟩
    have sr:aF H2 (upd H2 r (.tup [.int x,.int y])):=aF.new hr;have gr:(upd H2 r (.tup [.int x,.int y])) r=some (.tup [.int x,.int y]):=aH;generalize upd H2 r (.tup [.int x,.int y])=H3 at sr gr ⊢;have gq3:=sr _ _ (s2 _ _ gq');have sx:=hs zs mz x (ax ex);have sy:=hs zk mk y (ax ey);have s1:=hs zk mk _ (getD_in (e:=0) (show c < zk.length by lia));have s3:=hs zs mz _ (getD_in (e:=0) (show c < zs.length by lia));exists fe (show fh _ _ from .inr ⟨_,_,s1,sx,by decide⟩) ?_;exists cm (bO.of gq3) (CC (by lia)) ?_;exists fe (show fh _ _ from .inr ⟨_,_,s3,sy,by decide⟩) ?_;exists fe (show oI _ _ from ⟨b0,sb⟩) ?_;have ez:(List.zipWith (λx y=>(zk.getD c 0*x - zs.getD c 0*y).fdiv b) zs zk)[j]?=some ((zk.getD c 0*x - zs.getD c 0*y).fdiv b):=by rw[dZ,ex,ey]
    exact ⟨s2.trans sr,by rw[take_snoc ez];simp⟩
   ·rintro ys H2 hy ⟨s2,rfl⟩ r hr;have sn:aF H2 (upd H2 r (.lst (((List.zipWith (λx y=>(zk.getD c 0*x - zs.getD c 0*y).fdiv b) zs zk).take (zs.map V.int).length).map V.int))):=aF.new hr;refine ⟨(s'.trans s2).trans sn,?_⟩;rw[take_snoc ec,bK];refine bX (Paired.imp' (λ_ _ z=>(FP.same z s2).same sn) pr) (.cons ⟨r,rfl,ne_old (λz=>hl (s'.none (s2.none z))) hr,?_⟩ .nil);rw[aH,aG (by rw[df,ag];lia)]
  ·rintro ys H1 hy ⟨s1,pr⟩ r hr;have sn:aF H1 (upd H1 r (.lst ys)):=aF.new hr;have gn:(upd H1 r (.lst ys)) r=some (.lst ys):=aH;have ly:=pr.length;rw[ag,cN] at ly;generalize upd H1 r (.lst ys)=H2 at sn gn ⊢;exists eo gn (eK (by lia)) rfl ?_;have s2:aF H1 (upd H2 r (.lst (ys.set kk (.ref qk)))):=sn.after hr;exists k r _ (s1.none hr) (s1.trans s2) ⟨ne_old (λz=>hl (s1.none z)) hr,_,aH,?_⟩;unfold DB;rw[ek'];rw[aG (by lia)] at pr;exact gL (Paired.imp' (λ_ _ z=>FP.same z s2) pr) kk ⟨qk,rfl,qkl,(s1.trans s2) _ _ gk⟩
theorem qB:aX ["lines","at","to","swapped"] ["lines","at","to"] (aK nA):=by walk_at "d"
theorem zN (T:Txt K mg Z):cE P w K mg base fw 1 Z.uy Z.uc ["lines","at","to"] vQ:=by
 refine T.mi.F.ok qB (λvs H Q E h=>?_) (λcdv A outer s H vs Q E hr h=>?_)
 ·obtain ⟨l,p,ls,t,kk,rfl,_⟩:=h;rfl
 ·obtain ⟨l,p,ls,t,kk,rfl,hl,G,l1000,ht,hk,k⟩:=h
  refine ⟨_,(aw (a8 (i:=3) qB.nd rfl (Or.inl rfl) (eX uj (by rfl) T.list PyProof.Rows.boot_list (ae (pv 0) aj)))
   (aw (eV (aZ bS (pv 0) (pv 1)) (fB (pv 3) (pv 2) set_list))
   (aw (eV (aZ bS (pv 0) (pv 2)) (fB (pv 3) (pv 1) set_list))
   (aA (aY (pv 3)))))),?_⟩
  refine aP (σ:=[some (.ref p),some (.int t),some (.int kk),none]) rfl ?_;obtain ⟨pl,xs,gx,qx⟩:=id G;have lx:=qx.length;obtain ⟨zt,vt,et,evt,_,Ft⟩:=fo qx ht;obtain ⟨zk,vk,ek,evk,_,Fk⟩:=fo qx hk;exists ⟨p,xs,rfl,.inl (bO.of gx),λc hc=>?_⟩;have sc:aF H (upd H c (.lst xs)):=aF.new hc;have gc:(upd H c (.lst xs)) c=some (.lst xs):=aH;generalize upd H c (.lst xs)=Hc at sc gc ⊢;exists cm (bO.of (sc _ _ gx)) (dS evt) ?_;exists eo gc (eK (by lia)) rfl ?_;have s1:aF H (upd Hc c (.lst (xs.set kk vt))):=sc.after hc;have g1:(upd Hc c (.lst (xs.set kk vt))) c=some (.lst (xs.set kk vt)):=aH;generalize upd Hc c (.lst (xs.set kk vt))=H1 at s1 g1 ⊢;exists cm (bO.of (s1 _ _ gx)) (dS evk) ?_;exists eo g1 (eK (by rw[dQ];lia)) rfl ?_;have s2:aF H (upd H1 c (.lst ((xs.set kk vt).set t vk))):=s1.after hc;exists k c _ hc s2 ⟨ne_old hl hc,_,aH,?_⟩;have et':ls.getD t []=zt:=by rw[aa,et];rfl
  have ek':ls.getD kk []=zk:=by rw[aa,ek];rfl
  unfold mZ;rw[et',ek'];exact gL (gL (Paired.imp' (λ_ _ z=>FP.same z s2) qx) kk (FP.same Ft s2)) t (FP.same Fk s2)
theorem ic:aX ["rows","wide","lines","leads","before","place","many","at"] ["rows","wide"] (aK Bt):=by walk_at "d"
theorem Io (T:Txt K mg Z):cE P w K mg base fw 4 Z.FL Z.FF ["rows","wide"] (zX K):=by
 refine T.yE.F.ok ic (λvs H Q E h=>?_) (λcdv A outer s H vs Q E hr h=>?_)
 ·obtain ⟨p,n,w,H0,rows,rfl,_⟩:=h;rfl
 ·obtain ⟨p,n,w,H0,rows,rfl,G,r100,n100,hw,F,k⟩:=h
  refine ⟨_,(aw (gF 2 ["row"] [] [] ic.nd rfl rfl (ck (pv 0)) (λ_=>(aM (i:=0) (show ND9 ["row"] by decide +kernel))) (λ_=>bZ) (λ_=>(cL (nI T) hr T.iu (ae (pv 0) (ae (cL (iY T) hr T.eZ (ae (pv 0) aj)) aj)))))
   (aw (a8 (i:=3) ic.nd rfl (Or.inl rfl) (eF aj))
   (aw (a8 (i:=4) ic.nd rfl (Or.inl rfl) ar)
   (aw (eE PassesOwn.never rfl (b7 rfl T.range (ae (pv 1) aj)) (aM (i:=5) ic.nd)
    (aw (a8 (i:=6) ic.nd rfl (Or.inl rfl) (bL be (by rfl) T.len aU (ae (pv 3) aj)))
   (aw (a8 (i:=7) ic.nd rfl (Or.inl rfl) (cL (zM T) hr T.mh (ae (pv 2) (ae (pv 6) (ae (pv 5) aj)))))
   (aA (cZ (bA Kz (pv 7) BB (bH _)) (aw (a8 (i:=2) ic.nd rfl (Or.inl rfl) (cL (Ei T) hr T.sD (ae (cL (zN T) hr T.mi (ae (pv 2) (ae (pv 7) (ae (pv 6) aj)))) (ae (pv 6) (ae (pv 5) (ae (pv 4) aj))))))
   (aw (a8 (i:=4) ic.nd rfl (Or.inl rfl) (aZ bS (aZ bS (pv 2) (pv 6)) (pv 5)))
   (aA (ji (tx cM dm dk iZ (pv 3) (ae (pv 5) aj)))))) bY)))))
   (aA (aY (cO (ae (pK Bg (pv 2) tm (tj (bL be (by rfl) T.len aU (ae (pv 3) aj)))) (ae (pv 3) aj))))))))),?_⟩
  refine aP (σ:=[some (.ref p),some (.int n),none,none,none,none,none,none]) rfl ?_;obtain ⟨xs,gx,qx,_⟩:=id G;obtain ⟨W,hW,W2,ent⟩:=F.ent;obtain ⟨_,_,_,_,_,_,_,_,r15,r89⟩:=id F;exists ⟨⟨_,bO.of gx⟩,?_⟩;refine c8 (K:=K) (as:=rows) (F:=cI K H0) (λ(H:Hp) (zs:List Int) (v:V)=>∃q,v=V.ref q/\H q=some (.lst (zs.map V.int))) fH gx qx (by lia) (λa b=>a.same b) (λ⟨q,a,b⟩ s=>⟨q,a,s _ _ b⟩) ?_ ?_
  ·rintro i qs v H' NY NN ec s' ⟨u,rfl,_,R⟩ k1;have mx:=ax ec;obtain ⟨M,hM⟩:=F.rowM mx;obtain ⟨b1,sb⟩:=hM.bot;have lq:(qs.map nm).length<=1000:=by rw[ag,hw qs mx];lia
   exists ⟨u,_,M,rfl,R.rowK,lq,hM,λH2 s2=>?_⟩;exists ⟨u,_,M,_,rfl,(R.same s2).rowK,lq,hM,b1,sb,λr H3 n3 s3 g3=>k1 _ _ (s2.trans s3) ⟨r,rfl,g3⟩⟩
  rintro ys H1 lp0 hlp s1 g1 pr1 nx1;exists dB λqp H2 s2 nq gq=>?_
  have G2:pZ qp H2 lp0 (rows.map fH):=⟨(λz=>by rw[z,nq] at g1;cases g1),ys,s2 _ _ g1,Paired.imp' (λ_ _ ⟨q,a,b⟩=>⟨q,a,(λz=>by rw[z,nq] at b;cases b),s2 _ _ b⟩) pr1⟩;have hq0:H qp=none:=s1.none nq;have s02:=s1.trans s2;have hm:(rows.map fH).length=rows.length:=ag ..;clear g1 pr1 nx1;exists ⟨by lia,by lia,?_⟩;refine eP (n:=n) (λP σ' H'=>aF H H'/\∃lp ls ps d y1 y2 y3,σ'=[some (.ref p),some (.int n),some (.ref lp),some (.ref qp),some (.int d),y1,y2,y3]/\H' qp=some (.lst (b9 ps))/\pZ qp H' lp ls/\AV (rows.map fH) n P ls ps d) ⟨s02,lp0,rows.map fH,[],1,_,_,_,rfl,gq,G2,AV.start λzs hz=>by obtain ⟨x,hx,rfl⟩:=ay.mp hz;rw[mF];exact hw x hx⟩ ?_ ?_
  ·rintro P σ' H' hP ⟨s',lp,ls,ps,d,y1,y2,y3,rfl,gq',G',I⟩;have hl:=I.len;have kP:=I.el.kP;have km:=I.el.km;have lps:(b9 ps).length=ps.length:=ag ..;have hqp:H' qp≠none:=by rw[gq'];exact λz=>nomatch z
   obtain ⟨z1,z2⟩:=I.sz (r:=min rows.length n) hW ent (by lia) (by rw[hm];exact ak _) r15;have big:(16*W)^min rows.length n < 2^8999:=bg (vn W2) (eB (by decide) (by lia));exists ⟨_,_,rfl,.inl (bO.of gq'),?_⟩;rw[lps];exists ⟨qp,lp,ls,ps.length,P,rfl,G',by lia,by lia,λzs hz=>by rw[I.wide zs hz];exact hP,λt h1 h2 h3=>?_,λhz=>?_⟩
   ·exists ⟨rfl,_,rfl,?_⟩;rw[show decide (V.int (t:Int)=V.non)=false from decide_eq_false (λz=>nomatch z)];exists ⟨qp,lp,ls,t,ps.length,rfl,hqp,G',by lia,h2,by lia,λl1 Ha na sa Ga=>?_⟩;exists ⟨qp,l1,_,ps.length,P,n,d,rfl,λz=>hqp (sa.none z),Ga,by rw[uO];lia,by rw[uO];lia,EK I.wide (by lia) h2,by lia,hP,I.d0,bg z1 big,λzs hz z hz'=>?_,λl2 Hb nb sb Gb=>?_⟩
    ·unfold mZ at hz;have key:∀ys,ys∈ls->∀z∈ys,Sz 8999 z:=λys hy z hz=>bg (z2 ys hy z hz) big
     rcases cu hz with h | h
     ·rcases cu h with h | h
      ·exact key zs h z hz'
      ·rw[h] at hz';exact key _ (getD_in h2) z hz'
     ·rw[h] at hz';exact key _ (getD_in (by lia)) z hz'
    have sab:=sa.trans sb;have I2:=I.step hW ent h1 h2 h3;have hk2:ps.length < (DB (mZ ls ps.length t) ps.length P d).length:=by rw[Jr,uO];lia
    obtain ⟨n2,xs2,gx2,qx2⟩:=id Gb;obtain ⟨zk,vk,ek,evk,mk,qk,rfl,_,gk⟩:=fo qx2 hk2;have wk:=I2.wide zk mk;exists cm (bO.of gx2) (dS evk) ?_;exists cm (bO.of gk) (CC (by lia)) ?_;have gqb:=sab _ _ gq';exists ⟨.inl ⟨rfl,_,bO.of gqb⟩,?_⟩;exists iV gqb (bc (by lia)) ?_;refine ⟨(s'.trans sab).after hq0,l2,_,ps++[P],_,_,_,_,rfl,?_,Gb.upd,?_⟩
    ·rw[aH];unfold b9;rw[bK];rfl
    ·have e:(DB (mZ ls ps.length t) ps.length P d).getD ps.length []=zk:=by rw[aa,ek];rfl
     rw[e] at I2;exact I2
   ·exists ⟨rfl,_,rfl,?_⟩;rw[show decide (V.non=V.non)=true from decide_eq_true rfl];exists ⟨s',lp,ls,ps,d,_,_,_,rfl,gq',G',I.skip hz⟩
  rintro σ' H' ⟨s',lp,ls,ps,d,y1,y2,y3,rfl,gq',G',I⟩;obtain ⟨R,hR⟩:=I.done hw F;have lps:(b9 ps).length=ps.length:=ag ..;obtain ⟨nl,xs',gx',qx'⟩:=id G';exists ⟨_,_,rfl,.inl (bO.of gq'),?_⟩;rw[lps];exists Bx (bO.of gx') λsl H3 s3 n3 g3=>?_
  rw[Jp] at g3;exists b6 λt H4 s4 g4=>?_
  have s34:=s3.trans s4;exact k t sl qp R ps d _ H4 g4 (s34 _ _ gq') ⟨(λz=>by rw[z,gq'] at n3;cases n3),_,s4 _ _ g3,Paired.imp' (λ_ _ z=>FP.same z s34) (pL qx' ps.length)⟩ (s'.trans s34) hR
theorem uR:aX ["top","bottom","divisor"] ["top","bottom"] (aK yc):=by walk_at "d"
theorem vq (T:Txt K mg Z):cE P w K mg base fw 2 Z.DH Z.Dx ["top","bottom"] F3:=by
 refine T.mK.F.ok uR (λvs H Q E h=>?_) (λcdv A outer s H vs Q E hr h=>?_)
 ·obtain ⟨t,b,rfl,_⟩:=h;rfl
 ·obtain ⟨t,b,rfl,hb,hs,k⟩:=h
  refine ⟨_,(aw (a8 (i:=2) uR.nd rfl (Or.inl rfl) (cL (ip T) hr T.eI (ae (pv 0) (ae (pv 1) aj))))
   (aw (cZ (bA qC (pv 1) ar (bH _)) (aA (a8 (i:=2) uR.nd rfl (Or.inl rfl) (yp rF (pv 2)))) bY)
   (aA (aY (cO (ae (bI ik (pv 0) (pv 2)) (ae (bI ik (pv 1) (pv 2)) aj))))))),?_⟩
  refine aP (σ:=[some (.int t),some (.int b),none]) rfl ?_;exists ⟨t,b,rfl,?_⟩;have hg:=yP (t:=t) hb
  have hgs:Sz 8999 (g t b):=hs.le (by
   have h1:(g t b).natAbs=Int.gcd t b:=by unfold g;simp
   rw[h1];exact ia (by lia) (by have:=eN (a:=t) (b:=b);exact d4.mpr this |> λz=>by simpa using z))
  have hgn:g (-t) (-b)=g t b:=by unfold g;rw[Int.gcd_neg,Int.neg_gcd]
  exists gQ (λh=>?_) (λh=>?_)
  ·have hb0:b < 0:=of_decide_eq_true h;exists fe (show oI _ _ from ⟨by lia,hgs.neg⟩) ?_;exists fe (show oI _ _ from ⟨by lia,hgs.neg⟩) ?_;exists b6 λr H' s' h'=>?_
   have e1:t.fdiv (-g t b)=lo (-t) (-b):=by
    unfold Nm.lo;rw[hgn,<- cA _ (by lia),<- Int.neg_fdiv_neg (-t),Int.neg_neg]
   have e2:b.fdiv (-g t b)=hi (-t) (-b):=by
    unfold Nm.hi;rw[hgn,<- cA _ (by lia),<- Int.neg_fdiv_neg (-b),Int.neg_neg]
   exact k r H' s' (by rw[if_pos hb0,if_pos hb0,<- e1,<- e2];exact h')
  ·have hb0:¬b < 0:=λz=>h (decide_eq_true z)
   exists fe (show oI _ _ from ⟨by lia,hgs⟩) ?_;exists fe (show oI _ _ from ⟨by lia,hgs⟩) ?_;exists b6 λr H' s' h'=>?_
   rw[cA _ (by lia),cA _ (by lia)] at h';exact k r H' s' (by rw[if_neg hb0,if_neg hb0];exact h')
theorem xX:aX ["rows","wide","found"] ["rows","wide"] (aK uW):=by walk_at "d"
theorem nJ (T:Txt K mg Z):cE P w K mg base fw 5 Z.AM Z.Ar ["rows","wide"] (vO K):=by
 refine T.i5.F.ok xX (λvs H Q E h=>?_) (λcdv A outer s H vs Q E hr h=>?_)
 ·obtain ⟨p,n,w,H0,rows,rfl,_⟩:=h;rfl
 ·obtain ⟨p,n,w,H0,rows,rfl,G,r100,n100,hw,F,k⟩:=h
  refine ⟨_,(aw (a8 (i:=2) xX.nd rfl (Or.inl rfl) (cL (Io T) hr T.yE (ae (pv 0) (ae (pv 1) aj))))
   (aA (aY (bW ["line","lead"] [] [] (xu rfl T.zip (ae (aZ bU (pv 2) ar) (ae (aZ bU (pv 2) ar) aj))) (λ_=>(tw K 2 (c7 (aM (i:=0) (show ND9 ["line","lead"] by decide +kernel) rfl (Or.inr rfl) (Or.inl rfl)) (c7 (aM (i:=1) (show ND9 ["line","lead"] by decide +kernel) rfl (Or.inr rfl) (Or.inl rfl)) jV)))) (λ_=>bZ) (λ_=>(bW ["top"] ["line","lead"] [0,1] (tu K (pv 0)) (λ_=>(aM (i:=0) (show ND9 ["top","line","lead"] by decide +kernel))) (λ_=>bZ) (λ_=>(cL (vq T) hr T.mK (ae (pv 0) (ae (aZ (fu K (by rfl)) (pv 1) (pv 2)) aj)))))))))),?_⟩
  refine aP (σ:=[some (.ref p),some (.int n),none]) rfl ?_;obtain ⟨_,_,_,_,_,_,_,_,r15,r89⟩:=id F;exists ⟨p,n,w,H0,rows,rfl,G,r100,n100,hw,F,λt lp qp R ps d ls H1 gt gq G1 s1 S=>?_⟩;obtain ⟨lR,wR,RR⟩:=id S.rr;have hl:=S.len;obtain ⟨_,xs,gx,qx⟩:=id G1;have lx:=qx.length;have lps:(b9 ps).length=ps.length:=ag ..;have d0:(d:Rat)≠0:=λz=>S.d0 (pX z)
  have dsz:Sz 8999 d:=bg S.dsz (eB (by decide) (by lia))
  have km:ps.length<=n:=by
   rcases bP n ps.length with z | z
   ·have inc:∀j,j < ps.length->j<=ps.getD j 0:=by
     intro j
     induction j with
     | zero=>intro _;exact bu _
     | succ j ih =>
      intro hj;have:=ih (by lia);have:=RR.inc j (j+1) (by lia) hj
      lia
    have h1:=inc (ps.length - 1) (by lia);have h2:=RR.low (ps.length - 1) (by lia)
    lia
   ·exact z
  exists ⟨⟨_,bO.of gx⟩,⟨_,bO.of gq⟩,?_⟩;refine y4 (K:=K) (xs:=xs) (ws:=b9 ps) (λi ys H'=>aF H1 H'/\Paired (cI K H1 H') (R.take i) ys) (aN (bc (by lia))) (by lia) ⟨aF.refl _,.nil⟩ (λi ys H' _ ⟨s,_⟩=>⟨bO.of (s _ _ gx),bO.of (s _ _ gq)⟩) ?_ ?_
  ·rintro i v1 v2 ys H' r h1 h2 hy ⟨s,pr⟩ hr;obtain ⟨zs,ez,q,rfl,_,gq1⟩:=cJ qx h1;have hi:i < ls.length:=(aB.mp ez).1;have mz:=ax ez;have wz:=S.wide zs mz
   obtain ⟨j,ej,rfl⟩:∃j:Nat,ps[i]?=some j/\V.int (j:Int)=v2:=by
    unfold b9 at h2;rw[aD] at h2;cases e:ps[i]? with
    | none=>rw[e] at h2;cases h2
    | some x=>rw[e] at h2;exact ⟨x,rfl,cf h2⟩
   have ej':ps.getD i 0=j:=by rw[aa,ej];rfl
   have jn:j < n:=by have:=RR.low i (by lia);rw[ej'] at this;exact this
   have sr:aF H' (upd H' r (.tup [.ref q,.int j])):=aF.new hr;have gr:(upd H' r (.tup [.ref q,.int j])) r=some (.tup [.ref q,.int j]):=aH;generalize upd H' r (.tup [.ref q,.int j])=H2 at sr gr ⊢;have s2:=s.trans sr;have iR:i < R.length:=by lia
   have eR:=af iR;have wRi:=wR _ (aO iR)
   have ed:zs.getD j 0=d:=by
    have h:=S.val i j;rw[LZ ez] at h;have u:=RR.unit i (by lia) i (by lia);rw[if_pos rfl,ej'] at u;rw[u,uG] at h;exact dq.mp h
   have val:∀c,((zs.getD c 0:Int):Rat)=(d:Rat)*(R[i]).getD c 0:=λc=>by
    have h:=S.val i c;rw[LZ ez] at h;rw[h];unfold bJ;rw[aa (l:=R),eR];rfl
   exists ⟨⟨_,bO.of (s2 _ _ gq1)⟩,?_⟩;refine dd (K:=K) (xs:=zs.map V.int) (λc ys' H3=>aF H2 H3/\Paired (cb K H3) ((R[i]).take c) ys') (aN (bc (by rw[ag];lia))) ⟨aF.refl _,.nil⟩ (λc ys' H3 _ ⟨s3,_⟩=>bO.of ((s2.trans s3) _ _ gq1)) ?_ ?_
   ·rintro c x ys' H3 hx hlen ⟨s3,pr3⟩
    obtain ⟨z,ec,rfl⟩:∃z,zs[c]?=some z/\V.int z=x:=by
     rw[aD] at hx;cases e:zs[c]? with
     | none=>rw[e] at hx;cases hx
     | some x=>rw[e] at hx;exact ⟨x,rfl,cf hx⟩
    have hc:c < zs.length:=(aB.mp ec).1;have vc:=val c;have e1:zs.getD c 0=z:=by rw[aa,ec];rfl
    rw[e1] at vc;exists cm (bO.of ((s2.trans s3) _ _ gq1)) (CC (by lia)) ?_;rw[ed];exists ⟨z,d,rfl,S.d0,dsz,λr4 H4 s4 g4=>?_⟩;have ec':(R[i])[c]?=some ((R[i]).getD c 0):=by rw[aa,af (show c < (R[i]).length by lia)];rfl
    refine ⟨s3.trans s4,?_⟩;rw[take_snoc ec'];refine bX (Paired.imp' (λ_ _ z=>cb.same z s4) pr3) (.cons (cb.mk g4 ?_) .nil);rcases Int.lt_or_lt_of_ne S.d0 with hd | hd
    ·rw[if_pos hd,if_pos hd];refine oi (by lia) ?_;rw[cS,cS,vc];grind
    ·rw[if_neg (by lia),if_neg (by lia)];refine oi hd ?_;rw[vc];grind
   ·rintro ys' H3 hy' ⟨s3,pr3⟩ l4 hl4;have sn:aF H3 (upd H3 l4 (.lst ys')):=aF.new hl4;refine ⟨(s2.trans s3).trans sn,?_⟩;rw[take_snoc eR];rw[aG (by rw[ag];lia)] at pr3;exact bX (Paired.imp' (λ_ _ z=>cI.same z ((sr.trans s3).trans sn)) pr) (.cons ⟨l4,rfl,(s2.trans s3).none hl4,ys',aH,Paired.imp' (λ_ _ z=>cb.same z sn) pr3⟩ .nil)
  ·rintro ys H' hy ⟨s,pr⟩ r hr;have sn:aF H' (upd H' r (.lst ys)):=aF.new hr;rw[aG (by lia)] at pr;refine k r R ps d.natAbs _ (s1.none (s.none hr)) ((s1.trans s).trans sn) ⟨ys,aH,Paired.imp' (λ_ _ z=>(cI.weak z s1).same sn) pr,fZ (H0:=H1) (rows:=R) ⟨H',hr,pr⟩⟩ S.rr S.km ?_ S.dsz S.tp;have:=S.d0
   lia
theorem m4:aX ["one","other","one_bottom","other_bottom","pairs"] ["one","other"] (aK uV):=by walk_at "d"
theorem Ef (T:Txt K mg Z):cE P w K mg base fw 4 Z.AL Z.Aq ["one","other"] (Be K):=by
 refine T.r8.F.ok m4 (λvs H Q E h=>?_) (λcdv A outer s H vs Q E hr h=>?_)
 ·obtain ⟨p,q,xs,ys,rfl,_⟩:=h;rfl
 ·obtain ⟨p,q,xs,ys,rfl,hp,hq,hl,hz,⟨k1,j1,k2,j2,h1,h2,hkj⟩,kk⟩:=h
  refine ⟨_,(aw (a8 (i:=2) m4.nd rfl (Or.inl rfl) (cL (iY T) hr T.eZ (ae (pv 0) aj)))
   (aw (a8 (i:=3) m4.nd rfl (Or.inl rfl) (cL (iY T) hr T.eZ (ae (pv 1) aj)))
   (aw (a8 (i:=4) m4.nd rfl (Or.inl rfl) (Ec rfl T.list rfl T.zip (ae (cL (nI T) hr T.iu (ae (pv 0) (ae (pv 2) aj))) (ae (cL (nI T) hr T.iu (ae (pv 1) (ae (pv 3) aj))) aj))))
   (aA (aY (cL (vq T) hr T.mK (ae (bL (Js rfl) (by rfl) T.sum PyProof.Rows.boot_sum (ae (bW ["mine","yours"] [] [] (ck (pv 4)) (λ_=>(tw K 2 (c7 (aM (i:=0) (show ND9 ["mine","yours"] by decide +kernel)) (c7 (aM (i:=1) (show ND9 ["mine","yours"] by decide +kernel)) jV)))) (λ_=>bZ) (λ_=>(bI cQ (pv 0) (pv 1)))) aj)) (ae (bI cQ (pv 2) (pv 3)) aj)))))))),?_⟩
  refine aP (σ:=[some (.ref p),some (.ref q),none,none,none]) rfl ?_;obtain ⟨M,h1⟩:=h1.rowM (by lia);obtain ⟨N,h2⟩:=h2.rowM (by lia);replace hp:=hp.rowK;replace hq:=hq.rowK;replace hl:(ys.map nm).length=(xs.map nm).length:=by simpa using hl
  replace hz:(xs.map nm).length<=1000:=by simpa using hz
  obtain ⟨b1,s1⟩:=h1.bot;obtain ⟨b2,s2⟩:=h2.bot;have k2:∀r H',aF H H'->H' r=some (.tup [.int (lo (Jm (xs.map nm) (ys.map nm)) (fI (xs.map nm)*fI (ys.map nm))),.int (hi (Jm (xs.map nm) (ys.map nm)) (fI (xs.map nm)*fI (ys.map nm)))])->Q (.ref r) H':=λr H' s g=>kk r H' s (cb.mk g (KR b1 b2))
  clear kk;generalize xs.map nm=ns at hp hq hl hz h1 h2 b1 b2 s1 s2 k2;generalize ys.map nm=ms at hp hq hl hz h1 h2 b1 b2 s1 s2 k2;have hb:0 < fI ns*fI ms:=gE b1 b2;exists ⟨p,ns,M,rfl,hp,hz,h1,λH1 t1=>?_⟩;exists ⟨q,ms,N,rfl,hq.same t1,by lia,h2,λH2 t2=>?_⟩;have u2:=t1.trans t2;exists ⟨p,ns,M,_,rfl,hp.same u2,hz,h1,b1,s1,λr1 H3 n3 t3 g3=>?_⟩;exists ⟨q,ms,N,_,rfl,(hq.same u2).same t3,by lia,h2,b2,s2,λr2 H4 n4 t4 g4=>?_⟩;exists ⟨r1,r2,_,_,rfl,bO.of (t4 _ _ g3),bO.of g4,by simp [eS,hl],λL ts H5 t5 n5 g5 pr=>?_⟩;have lt:=pr.length;have ll:(eS ns (fI ns)).length=ns.length:=by simp [eS]
  have lm:(eS ms (fI ms)).length=ns.length:=by simp [eS,hl]
  rw[zA,ag,ag,ll,lm] at lt;exists ⟨⟨_,bO.of g5⟩,?_⟩;refine dd (K:=K) (xs:=ts) (λi ys H'=>H'=H5/\ys=((List.zipWith (λx y=>x*y) (eS ns (fI ns)) (eS ms (fI ms))).take i).map V.int) (aN (bc (by lia))) ⟨rfl,rfl⟩ (λi ys H' _ ⟨e,_⟩=>by subst e;exact bO.of g5) ?_ ?_
  ·rintro i x ys H' hx hlen ⟨rfl,rfl⟩;obtain ⟨pq,epq,T,rfl,gT⟩:=cJ pr hx;obtain ⟨t,u,et,eu,rfl⟩:=JH epq;exists fe (show fh _ _ from .inr ⟨_,_,CH h1 b1 s1 (ax et),CH h2 b2 s2 (ax eu),by decide⟩) ?_;have ez:(List.zipWith (λx y=>x*y) (eS ns (fI ns)) (eS ms (fI ms)))[i]?=some (t*u):=by rw[dZ,et,eu]
   exact ⟨rfl,by rw[take_snoc ez];simp⟩
  ·rintro ys H' hy ⟨rfl,rfl⟩ l hl';exists ⟨l,List.zipWith (λx y=>x*y) (eS ns (fI ns)) (eS ms (fI ms)),rfl,bO.of (by rw[aH,aG (by rw[df];lia)]),?_⟩;exists fe (show fh _ _ from .inr ⟨_,_,s1,s2,by decide⟩) ?_;exists ⟨_,_,rfl,by lia,(s1.mul s2).mono (by decide),λr H6 t6 g6=>?_⟩;rw[if_neg (by lia),if_neg (by lia)] at g6;exact k2 r H6 ((((u2.trans t3).trans t4).trans t5).trans ((aF.new hl').trans t6)) g6
theorem D4:aX ["grid","row"] ["grid","row"] (aK u0):=by walk_at "d"
theorem nK (T:Txt K mg Z):cE P w K mg base fw 5 Z.AR Z.Aw ["grid","row"] (EX K):=by
 refine T.ja.F.ok D4 (λvs H Q E h=>?_) (λcdv A outer s H vs Q E hr h=>?_)
 ·obtain ⟨p,q,H0,rows,ys,rfl,_⟩:=h;rfl
 ·obtain ⟨p,q,H0,rows,ys,rfl,hp,hq,hz,hl,hr1,kk⟩:=h;refine ⟨_,(aA (aY (bW ["line"] ["row"] [1] (ck (pv 0)) (λ_=>(aM (i:=0) (show ND9 ["line","row"] by decide +kernel))) (λ_=>bZ) (λ_=>(cL (Ef T) hr T.r8 (ae (pv 0) (ae (pv 1) aj))))))),?_⟩;refine aP (σ:=[some (.ref p),some (.ref q)]) rfl ?_;obtain ⟨xs,gx,qx,_⟩:=id hp;exists ⟨⟨_,bO.of gx⟩,?_⟩;refine c8 (K:=K) (F:=cI K H0) (cb K) (λxs=>eL xs ys) gx qx hz (λa b=>a.same b) (λa b=>a.same b) ?_ ?_
  ·rintro i ns x H' NY NN en s ⟨u,rfl,_,hu⟩ k;obtain ⟨e1,e2⟩:=hr1 ns (ax en);exists ⟨u,q,ns,ys,rfl,hu,hq.same s,e1.symm,by lia,e2,λr H2 s2 h2'=>k _ _ s2 h2'⟩
  ·rintro ys' H' r hr s g pr nx;exact kk r H' hr s ⟨ys',g,pr⟩
theorem zG:aX ["system","rows"] ["system","rows"] (aK m9):=by walk_at "d"
theorem zK (T:Txt K mg Z):cE P w K mg base fw 6 Z.uu Z.tY ["system","rows"] (z7 K Z.a_System):=by
 refine T.md.F.ok zG (λvs H Q E h=>?_) (λcdv A outer s H vs Q E hr h=>?_)
 ·obtain ⟨x,p,H0,H1,mv,pt,lk,R,rfl,_⟩:=h;rfl
 ·obtain ⟨x,p,H0,H1,mv,pt,lk,R,rfl,S,D,G,l100,wR,hf,k⟩:=h;refine ⟨_,(aA (aY (bW ["row"] ["system"] [0] (ck (pv 1)) (λ_=>(aM (i:=0) (show ND9 ["row","system"] by decide +kernel))) (λ_=>bZ) (λ_=>(cL (nK T) hr T.ja (ae (Kx K (pv 1) rfl) (ae (pv 0) aj))))))),?_⟩;refine aP (σ:=[some (.ref x),some (.ref p)]) rfl ?_;obtain ⟨dx,a',b',c',gx,_,_,_,Ga,Gb,Gc⟩:=id S;have d8:=D.n8;obtain ⟨xs,gxs,qx,_⟩:=id G;exists ⟨⟨_,bO.of gxs⟩,?_⟩;refine c8 (K:=K) (F:=cI K H1) (cI K H) (qD mv) gxs qx (by lia) (λa b=>a.same b) (λa b=>a.same b) ?_ ?_
  ·rintro i ns v H' NY NN en s ⟨u,rfl,_,hu⟩ k1;have mn:=ax en;exists ⟨x,Z.a_System,dx,_,_,rfl,s _ _ gx,T.cl_System,T.na_move,sP,?_⟩;exists ⟨a',u,H0,mv,ns,rfl,Ga.same s,hu,by lia,by rw[wR ns mn];lia,λxs hx=>⟨by rw[D.mw xs hx,wR ns mn],hf xs hx ns mn⟩,λr H2 nr s2 R2=>k1 _ _ s2 ⟨r,rfl,s.none nr,R2⟩⟩
  ·rintro ys H' r hr s g pr nx;exact k r H' hr s ⟨ys,g,pr,fZ nx⟩
theorem kd:aX ["system","steps","lists","rows"] ["system","steps"] (aK lG):=by walk_at "d"
theorem yx (T:Txt K mg Z):cE P w K mg base fw 7 Z.qU Z.qJ ["system","steps"] (Ab K Z.a_System):=by
 refine T.kq.F.ok kd (λvs H Q E h=>?_) (λcdv A outer s H vs Q E hr h=>?_)
 ·obtain ⟨x,a,c,st,H0,mv,pt,lk,rfl,_⟩:=h;rfl
 ·obtain ⟨x,a,c,st,H0,mv,pt,lk,rfl,s1000,S,D,F,k⟩:=h
  refine ⟨_,(aw (a8 (i:=2) kd.nd rfl (Or.inl rfl) (eF (ae (eF aj) aj)))
   (aw (yi PassesOwn.never (bA Ot (bL be (by rfl) T.len aU (ae (pv 2) aj)) (pv 1) (bH _))
    (aw (a8 (i:=3) kd.nd rfl (Or.inl rfl) (cL (nJ T) hr T.i5 (ae (bI jN (ee (pv 0) rfl) (cL (zK T) hr T.md (ae (pv 0) (ae (aZ bS (pv 2) (yp rF ar)) aj)))) (ae (ee (pv 0) rfl) aj))))
   (aw (cZ (bA eY (bL be (by rfl) T.len aU (ae (pv 3) aj)) (bL be (by rfl) T.len aU (ae (aZ bS (pv 2) (yp rF ar)) aj)) (bH _)) (aA (aY (pv 2))) bY)
   (aA (ji (tx cM dm dk iZ (pv 2) (ae (pv 3) aj)))))))
   (aA (aY (pv 2))))),?_⟩
  refine aP (σ:=[some (.ref x),some (.int st),none,none]) rfl ?_;obtain ⟨dx,a',b',c',gx,_,_,_,Ga,Gb,Gc⟩:=id S;have d8:=D.n8;have i4:=D.i4;have lP:=fq (mv:=mv) (pt:=pt) rfl D.pw;exists dB λq0 H1 s1 nq0 g1=>?_
  exists dB λl H2 s2 nl g2=>?_
  have s02:=s1.trans s2;have nl0:H l=none:=s1.none nl;obtain ⟨Hz,eHz⟩:∃Hz,Hz=upd H l (.lst []):=⟨_,rfl⟩;have zl:Hz l≠none:=by rw[eHz,aH];exact λz=>nomatch z
  have zn:∀q,Hz q=none->H q=none/\q≠l:=λq h=>by
   have ne:q≠l:=λz=>zl (by rw[<- z];exact h)
   rw[eHz,br ne] at h;exact ⟨h,ne⟩
  have nz:∀q,H q=none->q≠l->Hz q=none:=λq h ne=>by rw[eHz,br ne];exact h
  clear eHz;have q0l:q0≠l:=λz=>by rw[z,nl] at g1;cases g1
  have G0:bB K Hz H2 q0 []:=⟨[],s2 _ _ g1,.nil,λz=>nomatch z⟩;exists A2 (λσ' H'=>aF H H'/\∃Rs R us y,σ'=[some (.ref x),some (.int st),some (.ref l),y]/\H' l=some (.lst us)/\Paired (λR v=>∃q,v=V.ref q/\Hz q=none/\bB K Hz H' q R) (Rs++[R]) us/\zv mv pt (Rs++[R])/\Rs.length<=st) (λ_ H'=>match H' l with | some (.lst us)=>st+1 - us.length | _=>0) ⟨s02,[],[],_,_,rfl,g2,.cons ⟨q0,rfl,nz q0 nq0 q0l,G0⟩ .nil,⟨by simp,λt R e=>?_,λt R R' e e'=>?_⟩,bu _⟩ ?_
  ·have ht:=(aB.mp e).1;have:t=0:=by simpa using ht
   subst this;cases e;exact ⟨[],D6⟩
  ·have ht:=(aB.mp e').1;simp at ht
  rintro σ' Ha ⟨sa,Rs,R,us,y,rfl,gu,pa,Gw,hst⟩;have lu:=pa.length;rw[av,bf] at lu;have eR:(Rs++[R])[Rs.length]?=some R:=by rw[bT (ak _),kZ];rfl
  obtain ⟨ps,RR⟩:=Gw.rr _ _ eR;have tn:Rs.length<=mv.length:=by have:=Gw.len _ _ eR;have:=RR.le;have:=RR.1;lia
  have fin:∀(Hx:Hp) (sx:aF Ha Hx) (hh:∀s,(Rs.length=st/\s=st\/Rs.length < st/\Rs.length<=s)->∃ps,aR (kry mv pt s) mv.length R ps),Q (.ref l) Hx:=λHx sx hh=>by
   refine k l (Rs++[R]) Hx nl0 (sa.trans sx) ⟨us,sx _ _ gu,Paired.imp' (λ_ _ ⟨q,e1,e2,e3⟩=>⟨q,e1,(zn q e2).1,(zn q e2).2,bB.weakN (bB.same e3 sx) λq h=>(zn q h).1⟩) pa⟩ Gw (by rw[av,bf];lia) λR2 e2 s hs=>?_
   rw[List.getLast?_concat] at e2;cases e2;rw[av,bf,Nat.add_sub_cancel] at hs;exact hh s hs
  exists ⟨_,_,rfl,.inl (bO.of gu),?_⟩;exists gQ (λh0=>?_) (λh0=>?_)
  ·have h0:=of_decide_eq_true h0;refine Lq ?_
   obtain ⟨zs,gS⟩:∃zs q,us=zs++[V.ref q]/\Hz q=none/\bB K Hz Ha q R:=by
    obtain ⟨v,ev,q,rfl,e2,e3⟩:∃v,us[Rs.length]?=some v/\∃q,v=V.ref q/\Hz q=none/\bB K Hz Ha q R:=by
     have ev:=af (show Rs.length < us.length by lia);obtain ⟨R2,e2,w⟩:=cJ pa ev;rw[eR] at e2;cases e2;exact ⟨_,ev,w⟩
    refine ⟨us.take Rs.length,q,?_,e2,e3⟩;rw[<- take_snoc ev,aG (by lia)]
   obtain ⟨q,rfl,zq,Gq⟩:=gS;have gxa:=sa _ _ gx;exists ⟨x,Z.a_System,dx,_,_,rfl,gxa,T.cl_System,T.na_put,Bc,?_⟩;exists cm (bO.of gu) (zb _ _) ?_;have wR:=RR.2.1;have lR:=RR.1;have pn:=RR.le;exists ⟨x,q,H0,Hz,mv,pt,lk,R,rfl,S.same sa,D,Gq,by lia,wR,F.fit d8 D.mw D.pw tn RR,λmr Hb nmr sb Gm=>?_⟩;obtain ⟨pv,gpv,qpv,_⟩:=Gb.same (sa.trans sb);obtain ⟨mvs,gmv,qmv,_⟩:=id Gm;have lpv:=qpv.length;have lmv:=qmv.length;rw[ag] at lmv;exists jK gpv gmv (aN (bc (by lia))) λcr Hc sc nc gc=>?_
   have sab:=sa.trans (sb.trans sc);have Gc':bB K (λ_=>none) Hc cr (pt++R.map (qD mv)):=vF (H:=Hb) (bX (Paired.imp' (λ_ _ ⟨q,e1,e2,e3⟩=>⟨q,e1,rfl,e3⟩) qpv) (Paired.imp' (λ_ _ ⟨q,e1,e2,e3⟩=>⟨q,e1,rfl,e3⟩) qmv)) sc nc gc;exists ⟨x,Z.a_System,dx,_,_,rfl,sab _ _ gx,T.cl_System,T.na_states,gK,?_⟩;exists ⟨cr,mv.length,_,_,_,rfl,Gc',by rw[av,ag];lia,by lia,λxs hx=>?_,F.step d8 D.mw D.pw tn RR,λrr R' ps' M' Hd nrr sd G' RR' pm' _ _ _=>?_⟩
   ·rcases au.mp hx with hx | hx
    ·exact D.pw xs hx
    ·obtain ⟨y,_,rfl⟩:=ay.mp hx;exact yv
   have sbd:=sb.trans (sc.trans sd);have sad:=sa.trans sbd;have K1:=tL rfl D.mw D.pw RR RR';have gud:=sbd _ _ gu;obtain ⟨rv,grv,qrv,_⟩:=id G';have lrv:=qrv.length;have lR':=RR'.1;have pn':=RR'.le;exists ⟨_,_,rfl,.inl (bO.of grv),?_⟩;exists cm (bO.of gud) (zb _ _) ?_;obtain ⟨ov,gov,qov,_⟩:=Gq.same sbd;have lov:=qov.length;exists ⟨_,_,rfl,.inl (bO.of gov),?_⟩;exists gQ (λh1=>?_) (λh1=>?_)
   ·have h1:=of_decide_eq_true h1;exists fin Hd sbd λs hs=>⟨ps,?_⟩
    obtain ⟨s',rfl⟩:∃s',s=Rs.length+s':=⟨s - Rs.length,by lia⟩;exact Ak rfl D.mw D.pw RR RR' (by lia) s'
   ·have h1:¬((rv.length:Int)=ov.length):=λz=>h1 (decide_eq_true z)
    have gr:=Dn rfl D.mw D.pw RR K1;have rl:rr≠l:=λz=>by rw[z,(sb.trans sc) _ _ gu] at nrr;cases nrr
    have zc:∀q,Hc q=none->Hz q=none:=λq h=>nz q (sab.none h) (λz=>by rw[z,(sb.trans sc) _ _ gu] at h;cases h)
    exists ⟨.inl ⟨rfl,_,bO.of gud⟩,?_⟩;exists iV gud (bc (by lia)) ?_;refine ⟨⟨sad.after nl0,Rs++[R],R',_,_,rfl,aH,bX (Paired.imp' (λ_ _ ⟨q,e1,e2,e3⟩=>⟨q,e1,e2,bB.updL (bB.same e3 sbd) gud zl (zn q e2).2⟩) pa) (.cons ⟨rr,rfl,zc rr nrr,bB.updL (G'.weakN zc) gud zl rl⟩ .nil),Gw.snoc K1 (by lia),by rw[av,bf];lia⟩,?_⟩;simp only[gu,aH,av,bf] at lu h0 ⊢
    lia
  ·have h0:¬((us.length:Int)<=st):=λz=>h0 (decide_eq_true z)
   walk_at "w"
   exact fin Ha (aF.refl _) λs hs=>⟨ps,by
    have:s=Rs.length:=by lia
    rw[this];exact RR⟩
theorem zF:aX ["system","steps"] ["system","steps"] (aK m8):=by walk_at "d"
theorem zJ (T:Txt K mg Z):cE P w K mg base fw 8 Z.uq Z.tX ["system","steps"] (zY K Z.a_System):=by
 refine T.l9.F.ok zF (λvs H Q E h=>?_) (λcdv A outer s H vs Q E hr h=>?_)
 ·obtain ⟨x,a,c,st,H0,mv,pt,lk,rfl,_⟩:=h;rfl
 ·obtain ⟨x,a,c,st,H0,mv,pt,lk,rfl,s1000,S,D,F,k⟩:=h;refine ⟨_,(aA (aY (aZ bS (cL (yx T) hr T.kq (ae (pv 0) (ae (pv 1) aj))) (yp rF ar)))),?_⟩;refine aP (σ:=[some (.ref x),some (.int st)]) rfl ?_;exists ⟨x,a,c,st,H0,mv,pt,lk,rfl,s1000,S,D,F,λr Rs H1 nr s1 ⟨us,gu,pa⟩ Gw hl hh=>?_⟩;have lu:=pa.length;obtain ⟨Rs',R,rfl⟩:∃Rs' R,Rs=Rs'++[R]:=⟨Rs.dropLast,Rs.getLast Gw.ne,(List.dropLast_concat_getLast Gw.ne).symm⟩;rw[av,bf] at lu hl;have eR:(Rs'++[R])[Rs'.length]?=some R:=by rw[bT (ak _),kZ];rfl
  obtain ⟨zs,q,rfl,zq,ql,Gq⟩:∃zs q,us=zs++[V.ref q]/\H q=none/\q≠r/\bB K H H1 q R:=by
   have ev:=af (show Rs'.length < us.length by lia);obtain ⟨R2,e2,q,e3,e4,e5,e6⟩:=cJ pa ev;rw[eR] at e2;cases e2;rw[e3] at ev;refine ⟨us.take Rs'.length,q,?_,e4,e5,e6⟩;rw[<- take_snoc ev,aG (by lia)]
  obtain ⟨ps,RR⟩:=hh R (by rw[List.getLast?_concat]) st (by rw[av,bf,Nat.add_sub_cancel];lia);exists cm (bO.of gu) (zb _ _) ?_;exact k q R ps H1 zq s1 Gq RR
theorem xY:aX ["grid","wide"] ["grid","wide"] (aK lH):=by walk_at "d"
theorem ki (T:Txt K mg Z):cE P w K mg base fw 1 Z.qV Z.qK ["grid","wide"] (CM K):=by
 refine T.fP.F.ok xY (λvs H Q E h=>?_) (λcdv A outer s H vs Q E hr h=>?_)
 ·obtain ⟨p,w,H0,rows,rfl,_⟩:=h;rfl
 ·obtain ⟨p,w,H0,rows,rfl,hp,hz,hw,hl,kk⟩:=h;refine ⟨_,(aA (aY (bW ["place"] ["grid"] [0] (b7 rfl T.range (ae (pv 1) aj)) (λ_=>(aM (i:=0) (show ND9 ["place","grid"] by decide +kernel) rfl (Or.inr rfl) (Or.inl rfl))) (λ_=>bZ) (λ_=>(bW ["line"] ["place"] [0] (tu K (pv 1)) (λ_=>(aM (i:=0) (show ND9 ["line","place"] by decide +kernel))) (λ_=>bZ) (λ_=>(aZ (fu K (by rfl)) (pv 0) (pv 1)))))))),?_⟩;refine aP (σ:=[some (.ref p),some (.int w)]) rfl ?_;exists ⟨by lia,by lia,?_⟩;refine fb (n:=w) (cI K H) (λj=>rows.map λxs=>xs.getD j 0) hw (λa b=>a.same b) ?_ ?_
  ·rintro j H1 NY NN hj s1 k1;obtain ⟨xs,gx,qx,_⟩:=hp.same s1;exists ⟨⟨_,bO.of gx⟩,?_⟩;refine c8 (K:=K) (F:=cI K H0) (cb K) (λxs=>xs.getD j 0) gx qx hz (λa b=>a.same b) (λa b=>a.same b) ?_ ?_
   ·rintro i ns x H2 NY2 NN2 en s2 ⟨u,rfl,_,zs,gz,qz⟩ k2;obtain ⟨v,ev,hv⟩:=Dq qz (j:=j) (by rw[hl ns (ax en)];exact hj);exists cm (bO.of gz) ev ?_;exact k2 _ _ (aF.refl _) hv
   ·rintro ys' H2 r hr s2 g pr nx;exact k1 _ _ s2 ⟨r,rfl,s1.none hr,ys',g,pr⟩
  ·rintro ys' H1 r hr s1 g pr nx;exact kk r H1 hr s1 ⟨ys',g,pr,fZ nx⟩
theorem uU:aX ["self"] ["self"] (aK eH):=by walk_at "d"
theorem vw (T:Txt K mg Z):cE P w K mg base fw 7 Z.jR Z.jQ ["self"] (xM K Z.a_System):=by
 refine T.oH.ok uU (λvs H Q E h=>?_) (λcdv A outer s H vs Q E hr h=>?_)
 ·obtain ⟨x,H0,mv,pt,lk,rfl,_⟩:=h;rfl
 ·obtain ⟨x,H0,mv,pt,lk,rfl,S,D,F,k⟩:=h;refine ⟨_,(aA (aY (BC T.mk_System (gN T) (hr.mono (by decide)) rfl T.mg_System T.fG .nil Dc (ae (cL (ki T) hr T.fP (ae (ee (pv 0) rfl) (ae (ee (pv 0) rfl) aj))) (ae (ee (pv 0) rfl) (ae (ee (pv 0) rfl) aj)))))),?_⟩;refine aP (σ:=[some (.ref x)]) rfl ?_;obtain ⟨dx,a,b,c,gx,n1,n2,n3,Ga,Gb,Gc⟩:=id S;have d1:=D.n8;exists ⟨x,Z.a_System,dx,_,_,rfl,gx,T.cl_System,T.na_move,sP,?_⟩;exists ⟨x,Z.a_System,dx,_,_,rfl,gx,T.cl_System,T.na_states,gK,?_⟩;exists ⟨a,mv.length,H0,mv,rfl,Ga,by lia,by lia,D.mw,λt H1 nt s1 Gt=>?_⟩;have gx1:=s1 _ _ gx;exists ⟨x,Z.a_System,dx,_,_,rfl,gx1,T.cl_System,T.na_look,sQ,?_⟩;exists ⟨x,Z.a_System,dx,_,_,rfl,gx1,T.cl_System,T.na_put,Bc,?_⟩;walk_at "w";intro x' dx' nx ndx nex;have F':=F.turn;exact ⟨x',dx',t,c,b,H1,H,H0,H0,_,_,_,rfl,nx,ndx,nex,rfl,Gt,Gc.same s1,Gb.same s1,D.turn,F'.ok.1,F'.ok.2.1,F'.ok.2.2,λH' s' S'=>⟨rfl,k x' H' (s1.none nx) (s1.trans s') (S'.weak s1)⟩⟩
theorem CY:aX ["many","at"] ["many","at"] (aK rN):=by walk_at "d"
theorem pO (T:Txt K mg Z):cE P w K mg base fw 1 Z.zd Z.yS ["many","at"] (CL K):=by
 refine T.jB.F.ok CY (λvs H Q E h=>?_) (λcdv A outer s H vs Q E hr h=>?_)
 ·obtain ⟨m,a',rfl,_⟩:=h;rfl
 ·obtain ⟨m,a',rfl,hm,k⟩:=h;refine ⟨_,(aA (aY (bW ["place"] ["at"] [1] (b7 rfl T.range (ae (pv 0) aj)) (λ_=>(aM (i:=0) (show ND9 ["place","at"] by decide +kernel))) (λ_=>bZ) (λ_=>(Ik (bA eY (pv 0) (pv 1) (bH _)) (nF (v:=.ref Z.a_ONE) rfl T.mg_ONE rfl) (nF (v:=.ref Z.a_NOUGHT) rfl T.mg_NOUGHT rfl)))))),?_⟩;refine aP (σ:=[some (.int m),some (.int a')]) rfl ?_;exists ⟨by lia,by lia,?_⟩;refine fb (n:=m) (cb K) (λi=>if ((i:Nat):Int)=a' then 1 else 0) hm (λa b=>a.same b) ?_ ?_
  ·rintro i H' NY NN hi s k1;exists gQ (λh0=>?_) (λh0=>?_)
   ·exists k1 _ _ (aF.refl _) (by rw[if_pos (of_decide_eq_true h0)];exact ⟨_,rfl,T.sq_ONE _⟩)
   ·exists k1 _ _ (aF.refl _) (by rw[if_neg (λz=>h0 (decide_eq_true z))];exact ⟨_,rfl,T.sq_NOUGHT _⟩)
  ·rintro ys H' l hl s g pr nx;exact k l _ hl s ⟨ys,g,pr⟩
theorem uS:aX ["row"] ["row"] (aK jI):=by walk_at "d"
theorem vv (T:Txt K mg Z):cE P w K mg base fw 1 Z.oE Z.oA ["row"] (CS K):=by
 refine T.i8.F.ok uS (λvs H Q E h=>?_) (λcdv A outer s H vs Q E hr h=>?_)
 ·obtain ⟨p,xs,j,rfl,_⟩:=h;rfl
 ·obtain ⟨p,xs,j,rfl,R,x1000,hj,hne,hz,k⟩:=h;refine ⟨_,(aA (aY (bL (GO rfl) (by rfl) T.min PyProof.Rows.boot_min (ae (bW ["place","value"] [] [] (Fb rfl T.enumerate (ae (pv 0) aj)) (λ_=>(tw K 2 (c7 (aM (i:=0) (show ND9 ["place","value"] by decide +kernel)) (c7 (aM (i:=1) (show ND9 ["place","value"] by decide +kernel)) jV)))) (λ_=>yo (bA (BG K (by rfl) (zR hr)) (pv 1) (nF (v:=.ref Z.a_NOUGHT) rfl T.mg_NOUGHT rfl) (bH _))) (λ_=>(pv 0))) aj)))),?_⟩;refine aP (σ:=[some (.ref p)]) rfl ?_;obtain ⟨zs,gz,qz⟩:=id R;have lz:=qz.length;exists ⟨⟨_,bO.of gz⟩,?_⟩;refine GN (K:=K) (xs:=zs) (λi ys H'=>aF H H'/\ys=b9 (Di xs i)) (aN (bc (by lia))) ⟨aF.refl _,rfl⟩ (λi ys H' _ ⟨s,_⟩=>bO.of (s _ _ gz)) ?_ ?_
  ·rintro i v ys H' r hx hlen ⟨s',rfl⟩ hr;obtain ⟨y,ey,ny⟩:=cJ qz hx;have ey':xs.getD i 0=y:=by rw[aa,ey];rfl
   have sr:aF H' (upd H' r (.tup [.int i,v])):=aF.new hr;have gr:(upd H' r (.tup [.int i,v])) r=some (.tup [.int i,v]):=aH;generalize upd H' r (.tup [.int i,v])=H2 at sr gr ⊢;exists ⟨_,_,Fn,y,0,by decide,(ny.same s').same sr,⟨_,rfl,T.sq_NOUGHT _⟩,?_⟩;by_cases e:y=0
   ·rw[decide_eq_true e];exists ⟨s'.trans sr,?_⟩;rw[xv,ey',if_neg (by simpa using e)]
   ·rw[decide_eq_false e];exists ⟨s'.trans sr,?_⟩;rw[xv,ey',if_pos e];unfold b9;rw[bK];rfl
  ·rintro ys H1 hy ⟨s1,rfl⟩ l hl;have sn:aF H1 (upd H1 l (.lst (b9 (Di xs zs.length)))):=aF.new hl;have gn:(upd H1 l (.lst (b9 (Di xs zs.length)))) l=some (.lst (b9 (Di xs zs.length))):=aH;generalize upd H1 l (.lst (b9 (Di xs zs.length)))=H2 at sn gn ⊢
   have mj:j∈Di xs zs.length:=by
    unfold Di;exact j6.mpr ⟨rD.mpr (by lia),by simpa using hne⟩
   exists ⟨l,pT (Di xs zs.length),rfl,bO.of (by rw[<- Ah];exact gn),?_,λM hM hle=>?_⟩
   ·unfold pT;rw[ag];exact List.length_pos_of_mem mj
   ·obtain ⟨c,hc,rfl⟩:=ay.mp hM;have h1:=hle j (ay.mpr ⟨j,mj,rfl⟩);have h2:=(j6.mp hc).2
    have e:c=j:=by
     rcases dI c j with z | z | z
     ·exact absurd (hz c z) (of_decide_eq_true h2)
     ·exact z
     ·lia
    rw[e];exact k _ (s1.trans sn)
theorem D3:aX ["rows"] ["rows"] (aK uY):=by walk_at "d"
theorem rY (T:Txt K mg Z):cE P w K mg base fw 2 Z.AO Z.Au ["rows"] (CT K):=by
 refine T.ks.F.ok D3 (λvs H Q E h=>?_) (λcdv A outer s H vs Q E hr h=>?_)
 ·obtain ⟨p,n,H0,R,ps,rfl,_⟩:=h;rfl
 ·obtain ⟨p,n,H0,R,ps,rfl,G,r100,n100,⟨rows,RR⟩,k⟩:=h;refine ⟨_,(aA (aY (bW ["row"] [] [] (ck (pv 0)) (λ_=>(aM (i:=0) (show ND9 ["row"] by decide +kernel))) (λ_=>bZ) (λ_=>(cL (vv T) hr T.i8 (ae (pv 0) aj)))))),?_⟩;refine aP (σ:=[some (.ref p)]) rfl ?_;obtain ⟨lR,wR,rr⟩:=id RR;obtain ⟨xs,gx,qx,_⟩:=id G;have lx:=qx.length;exists ⟨⟨_,bO.of gx⟩,?_⟩;refine dd (K:=K) (xs:=xs) (λi ys H'=>aF H H'/\ys=b9 (ps.take i)) (aN (bc (by lia))) ⟨aF.refl _,rfl⟩ (λi ys H' _ ⟨s,_⟩=>bO.of (s _ _ gx)) ?_ ?_
  ·rintro i v ys H' hx hlen ⟨s',rfl⟩;obtain ⟨row,er,q,rfl,_,Rr⟩:=cJ qx hx;have wr:=wR row (ax er);have hi:i < ps.length:=by have:=(aB.mp er).1;lia
   have ef:∀c,bJ R i c=row.getD c 0:=λc=>by unfold bJ;rw[aa (l:=R),er];rfl
   have ep:ps[i]?=some (ps.getD i 0):=by rw[aa,af hi];rfl
   have lowp:=rr.low i hi;have u:=rr.unit i hi i hi;rw[if_pos rfl,ef] at u;exists ⟨q,row,ps.getD i 0,rfl,Rr.same s',by lia,by lia,by rw[u];decide,λc hc=>by rw[<- ef];exact rr.lead i hi c hc,λH2 s2=>?_⟩;refine ⟨s'.trans s2,?_⟩;unfold b9;rw[take_snoc ep,bK];rfl
  ·rintro ys H1 hy ⟨s1,rfl⟩ r hr;refine k r _ (s1.none hr) (s1.trans (aF.new hr)) ?_;rw[aH,aG (by lia)]
theorem HR:aX ["one","other"] ["one","other"] (aK Bv):=by walk_at "d"
theorem Iq (T:Txt K mg Z):cE P w K mg base fw 3 Z.FO Z.FH ["one","other"] (m3 K (λx y=>x - y)):=by
 refine T.yG.F.ok HR (λvs H Q E h=>?_) (λcdv A outer s H vs Q E hr h=>?_)
 ·obtain ⟨p,q,a,b,c,d,rfl,hp,hq,hb,hd,sa,sb,sc,sd,k⟩:=xp h;rfl
 ·obtain ⟨p,q,a,b,c,d,rfl,hp,hq,hb,hd,sa,sb,sc,sd,k⟩:=xp h;refine ⟨_,(aA (aY (cL (vq T) hr T.mK (ae (bI gM (bI cQ (aZ bU (pv 0) ar) (aZ bU (pv 1) ar)) (bI cQ (aZ bU (pv 1) ar) (aZ bU (pv 0) ar))) (ae (bI cQ (aZ bU (pv 0) ar) (aZ bU (pv 1) ar)) aj))))),?_⟩;refine aP (σ:=[some (.ref p),some (.ref q)]) rfl ?_;have hbd:0 < b*d:=gE hb hd;have sbd:Sz 8999 (b*d):=(sb.mul sd).mono (by decide);exists fe (show fh _ _ from .inr ⟨_,_,sa,sd,by decide⟩) ?_;exists fe (show fh _ _ from .inr ⟨_,_,sc,sb,by decide⟩) ?_;exists fe (show fh _ _ from .inr ⟨_,_,sb,sd,by decide⟩) ?_;walk_at "w";exists ⟨_,_,rfl,by lia,sbd,λr H' s' h'=>?_⟩;rw[if_neg (by lia),if_neg (by lia)] at h';exact k r H' s' h'
theorem m5:aX ["rows","wide","at","answer","lead","row"] ["rows","wide","at"] (aK uX):=by walk_at "d"
theorem Eg (T:Txt K mg Z):cE P w K mg base fw 4 Z.AN Z.As ["rows","wide","at"] (z6 K):=by
 refine T.sv.F.ok m5 (λvs H Q E h=>?_) (λcdv A outer s H vs Q E hr h=>?_)
 ·obtain ⟨p,n,a,H0,R,ps,rfl,_⟩:=h;rfl
 ·obtain ⟨p,n,a,H0,R,ps,rfl,G,r100,n100,⟨rows,RR⟩,ha,hp,hz,k⟩:=h
  refine ⟨_,(aw (a8 (i:=3) m5.nd rfl (Or.inl rfl) (cL (pO T) hr T.jB (ae (pv 1) (ae (pv 2) aj))))
   (aw (eE PassesOwn.never rfl (xu rfl T.zip (ae (cL (rY T) hr T.ks (ae (pv 0) aj)) (ae (pv 0) aj))) (yn rfl (c7 (aM (i:=4) m5.nd) (c7 (aM (i:=5) m5.nd) jV)))
    (aA (eV (cL (Iq T) hr T.yG (ae (nF (v:=.ref Z.a_NOUGHT) rfl T.mg_NOUGHT rfl) (ae (aZ bS (pv 5) (pv 2)) aj))) (fB (pv 3) (pv 4) set_list))))
   (aA (aY (pv 3))))),?_⟩
  refine aP (σ:=[some (.ref p),some (.int n),some (.int a),none,none,none]) rfl ?_;obtain ⟨lR,wR,rr⟩:=id RR;exists ⟨n,a,rfl,by lia,λan H1 na s1 R1=>?_⟩;rw[<- Fd (R:=R) (ps:=ps)] at R1;obtain ⟨vs0,g0,q0⟩:=id R1;exists ⟨p,n,H0,R,ps,rfl,G.same s1,r100,n100,⟨rows,RR⟩,λle H2 nl s2 g2=>?_⟩;have anl:le≠an:=λz=>by rw[z,g0] at nl;cases nl
  obtain ⟨rs,grs,qrs,_⟩:=id G;have lrs:=qrs.length;have lps:=iq (ps:=ps);exists ⟨⟨_,bO.of g2⟩,⟨_,bO.of ((s1.trans s2) _ _ grs)⟩,?_⟩;refine KJ (K:=K) (xs:=b9 ps) (ws:=rs) (λj σ' H'=>aF H H'/\H' le=some (.lst (b9 ps))/\∃y1 y2 vs,σ'=[some (.ref p),some (.int n),some (.int a),some (.ref an),y1,y2]/\H' an=some (.lst vs)/\Paired (cb K H') (Ej R ps n a j) vs) (by lia) ⟨s1.trans s2,g2,_,_,vs0,rfl,s2 _ _ g0,Paired.imp' (λ_ _ z=>cb.same z s2) q0⟩ (λj σ' H' _ ⟨e,e2,_⟩=>⟨bO.of e2,bO.of (e _ _ grs)⟩) ?_ ?_
  ·rintro j v1 v2 σ' H' r h1 h2 ⟨s',gl,y1,y2,vs,rfl,ga,qa⟩ hr;obtain ⟨row,er,q,rfl,_,Rr⟩:=cJ qrs h2;have mr:=ax er;have wr:=wR row mr;obtain ⟨pj,ej,rfl⟩:=tJ h1;have hj:j < ps.length:=(aB.mp ej).1;have ejD:ps.getD j 0=pj:=by rw[aa,ej];rfl
   have pjn:pj < n:=by have:=rr.low j hj;rw[ejD] at this;exact this
   have fr:bJ R j a=row.getD a 0:=by unfold bJ;rw[aa (l:=R),er];rfl
   have sr:aF H' (upd H' r (.tup [.int pj,.ref q])):=aF.new hr;have gr:(upd H' r (.tup [.int pj,.ref q])) r=some (.tup [.int pj,.ref q]):=aH;generalize upd H' r (.tup [.int pj,.ref q])=H3 at sr gr ⊢;have s03:=s'.trans sr;obtain ⟨us,gu,qu⟩:=Rr.same s03;obtain ⟨vx,ex,nx⟩:=Dq qu (j:=a) (by lia);exists cm (bO.of gu) ex ?_;exists ⟨_,_,0,row.getD a 0,rfl,⟨_,rfl,T.sq_NOUGHT _⟩,nx,HF,hz row mr _ (getD_in (by lia)),λr4 H4 s4 n4=>?_⟩;have ga4:=(sr.trans s4) _ _ ga;have gl4:=(sr.trans s4) _ _ gl;have la:=qa.length;rw[jO] at la;exists eo ga4 (eK (by lia)) rfl ?_;refine ⟨(s03.trans s4).after na,by rw[br anl];exact gl4,_,_,_,rfl,aH,?_⟩;rw[<- Fe RR hj hp,ejD,fr,show -(row.getD a 0)=0 - row.getD a 0 by grind];exact gL (Paired.imp' (λ_ _ z=>(cb.same z (sr.trans s4)).updL ga4) qa) pj (n4.updL ga4)
  ·rintro σ' H' ⟨s',gl,y1,y2,vs,rfl,ga,qa⟩;rw[lps] at qa;exists k an H' na s' ⟨vs,ga,qa⟩
theorem oW:aX ["rows","wide","leads"] ["rows","wide"] (aK lI):=by walk_at "d"
theorem pP (T:Txt K mg Z):cE P w K mg base fw 3 Z.qX Z.qL ["rows","wide"] (xU K):=by
 refine T.iw.F.ok oW (λvs H Q E h=>?_) (λcdv A outer s H vs Q E hr h=>?_)
 ·obtain ⟨p,n,H0,R,ps,rfl,_⟩:=h;rfl
 ·obtain ⟨p,n,H0,R,ps,rfl,G,r100,n100,RR,k⟩:=h
  refine ⟨_,(aw (a8 (i:=2) oW.nd rfl (Or.inr rfl) (cL (rY T) hr T.ks (ae (pv 0) aj)))
   (aA (aY (bW ["place"] ["leads"] [2] (b7 rfl T.range (ae (pv 1) aj)) (λ_=>(aM (i:=0) (show ND9 ["place","leads"] by decide +kernel))) (λ_=>yo (bA (l5 K (by rfl)) (pv 0) (pv 1) (by with_unfolding_all rfl))) (λ_=>(pv 0)))))),?_⟩
  refine aP (σ:=[some (.ref p),some (.int n),none]) rfl ?_;exists ⟨p,n,H0,R,ps,rfl,G,r100,n100,RR,λl H1 nl s1 g1=>?_⟩;exists ⟨by lia,by lia,?_⟩;refine gR (n:=n) (λi ys H'=>aF H1 H'/\ys=b9 (c4 ps i)) (aN (bc (by lia))) ⟨aF.refl _,rfl⟩ ?_ ?_
  ·rintro i ys H' hi hlen ⟨s',rfl⟩;rw[jy];exists ⟨l,b9 ps,rfl,.inl (bO.of (s' _ _ g1)),rfl,vz,?_⟩;rw[yO];by_cases e:i∈ps
   ·rw[decide_eq_true e];exists ⟨s',?_⟩;rw[kB,if_neg (by simpa using e)]
   ·rw[decide_eq_false e,show (if true=true then !false else false)=true from rfl];exists ⟨s',?_⟩;rw[kB,if_pos e];unfold b9;rw[bK];rfl
  ·rintro ys H2 hy ⟨s2,rfl⟩ r hr;exact k r _ (s1.none (s2.none hr)) ((s1.trans s2).trans (aF.new hr)) aH
theorem CZ:aX ["rows","wide","basis"] ["rows","wide"] (aK Bu):=by walk_at "d"
theorem Ip (T:Txt K mg Z):cE P w K mg base fw 6 Z.FN Z.FG ["rows","wide"] (z5 K):=by
 refine T.yF.F.ok CZ (λvs H Q E h=>?_) (λcdv A outer s H vs Q E hr h=>?_)
 ·obtain ⟨p,n,w,H0,rows,R,ps,rfl,_⟩:=h;rfl
 ·obtain ⟨p,n,w,H0,rows,R,ps,rfl,G,r100,n100,RR,F,szR,k⟩:=h
  refine ⟨_,(aw (a8 (i:=2) CZ.nd rfl (Or.inr rfl) (cL (nJ T) hr T.i5 (ae (pv 0) (ae (pv 1) aj))))
   (aA (aY (bW ["at"] ["basis","wide"] [2,1] (ck (cL (pP T) hr T.iw (ae (pv 2) (ae (pv 1) aj)))) (λ_=>(aM (i:=0) (show ND9 ["at","basis","wide"] by decide +kernel))) (λ_=>bZ) (λ_=>(cL (Eg T) hr T.sv (ae (pv 1) (ae (pv 2) (ae (pv 0) aj))))))))),?_⟩
  refine aP (σ:=[some (.ref p),some (.int n),none]) rfl ?_;exists ⟨p,n,w,H0,R,rfl,G,r100,n100,RR.2.1,F,λba R2 ps2 M H1 nb s1 G1 RR2 pm M0 M1 tM=>?_⟩;obtain ⟨rfl,rfl⟩:=RR2.same (sX RR);have pn:=RR.le;have lR:=RR.1;have fl:=Cd (ps:=ps2) (i:=n);exists ⟨ba,n,H,R2,ps2,rfl,G1,by lia,by lia,⟨rows,RR⟩,λfr H2 nf s2 g2=>?_⟩;exists ⟨⟨_,bO.of g2⟩,?_⟩;refine dd (K:=K) (xs:=b9 (c4 ps2 n)) (λi ys H'=>aF H2 H'/\Paired (cI K H H') ((c4 ps2 n).take i |>.map (tI R2 ps2 n)) ys) (aN (bc (by rw[iq];lia))) ⟨aF.refl _,.nil⟩ (λi ys H' _ ⟨s,_⟩=>bO.of (s _ _ g2)) ?_ ?_
  ·rintro i v ys H' hx hlen ⟨s',pr⟩;obtain ⟨a,ea,rfl⟩:=tJ hx;obtain ⟨an,ap⟩:=js.mp (ax ea);have s02:=(s1.trans s2).trans s';exists ⟨ba,n,a,H,R2,ps2,rfl,(G1.same s2).same s',by lia,by lia,⟨rows,RR⟩,an,ap,szR,λr H3 nr s3 R3=>?_⟩;refine ⟨s'.trans s3,?_⟩;rw[take_snoc ea,bK];exact bX (Paired.imp' (λ_ _ z=>cI.same z s3) pr) (.cons ⟨r,rfl,s02.none nr,R3⟩ .nil)
  ·rintro ys H3 hy ⟨s3,pr⟩ r hr;rw[aG (by rw[iq];exact ak _)] at pr;have sn:aF H3 (upd H3 r (.lst ys)):=aF.new hr;have s03:=(s1.trans s2).trans s3;exact k r _ (s03.none hr) (s03.trans sn) ⟨ys,aH,Paired.imp' (λ_ _ z=>cI.same z sn) pr,fZ (H0:=H) (rows:=a7 R2 ps2 n) ⟨H3,hr,pr⟩⟩
theorem oV:aX ["system","steps","told"] ["system","steps"] (aK lF):=by walk_at "d"
theorem yw (T:Txt K mg Z):cE P w K mg base fw 9 Z.qT Z.qI ["system","steps"] (xK K Z.a_System):=by
 refine T.ko.F.ok oV (λvs H Q E h=>?_) (λcdv A outer s H vs Q E hr h=>?_)
 ·obtain ⟨x,tt,e,H0,mv,pt,lk,rfl,_⟩:=h;rfl
 ·obtain ⟨x,tt,e,H0,mv,pt,lk,rfl,hT,S,D,F,UF,k⟩:=h
  refine ⟨_,(aw (a8 (i:=2) oV.nd rfl (Or.inl rfl) (cL (zJ T) hr T.l9 (ae (Ij (pv 0) T.cl_System T.mL (vw T) (hr.mono (by decide)) T.oC .nil Dc) (ae (pv 1) aj))))
   (aA (aY (cL (nJ T) hr T.i5 (ae (cL (Ip T) hr T.yF (ae (pv 2) (ae (ee (pv 0) rfl) aj))) (ae (ee (pv 0) rfl) aj)))))),?_⟩
  refine aP (σ:=[some (.ref x),some (.int tt),none]) rfl ?_;have d8:=D.n8;have et:(bQ mv mv.length).length=mv.length:=cW;obtain ⟨a,c,KF,_,_⟩:=UF.kf;obtain ⟨dx,a',b',c',gx,_⟩:=id S;exists ⟨x,dx,_,rfl,gx,DY,?_⟩;exists ⟨x,H0,mv,pt,lk,rfl,S,D,F.sf,λy H1 ny s1 S1=>?_⟩;exists ⟨y,a,c,tt,H,_,lk,pt,rfl,by lia,S1,D.turn,KF,λq R ps H2 nq s2 G2 RR=>?_⟩;have s02:=s1.trans s2;obtain ⟨⟨w1,sw⟩,szR,w2,swn,bn,q1,q10,tn⟩:=UF.sw RR;have e1:=UF.e1;rw[et] at RR sw swn bn tn;have le:=RR.le;have lR:=RR.1;have cnt:=mJ RR;exists ⟨x,Z.a_System,dx,_,_,rfl,s02 _ _ gx,T.cl_System,T.na_states,gK,?_⟩;exists ⟨q,mv.length,w1,H1,_,R,ps,rfl,G2,by lia,by lia,RR,sw,szR,λr3 H3 n3 s3 G3=>?_⟩;have s03:=s02.trans s3;exists ⟨x,Z.a_System,dx,_,_,rfl,s03 _ _ gx,T.cl_System,T.na_states,gK,?_⟩;exists ⟨r3,mv.length,w2,H2,_,rfl,G3,by lia,by lia,nP,swn,λr4 Hd psd M4 H4 n4 s4 G4 RN _ M0 M1 tp=>?_⟩;have up:=ao (show 0 < 2 by decide) bn;exact k r4 Hd H4 (s03.none n4) (s03.trans s4) (G4.weakN λq h=>s03.none h) ⟨R,ps,psd,M4,RR,RN,yD RR bw q10 tn RN,M0,ai M1 up,λxs hx x hx'=>(tp xs hx x hx').mono up⟩
theorem zH:aX ["rows","wide"] ["rows","wide"] (aK nh):=by walk_at "d"
theorem zL (T:Txt K mg Z):cE P w K mg base fw 4 Z.uw Z.t7 ["rows","wide"] (EY K):=by
 refine T.me.F.ok zH (λvs H Q E h=>?_) (λcdv A outer s H vs Q E hr h=>?_)
 ·obtain ⟨p,n,H0,R,ps,rfl,_⟩:=h;rfl
 ·obtain ⟨p,n,H0,R,ps,rfl,G,r100,n100,RR,k⟩:=h;refine ⟨_,(aA (aY (bW ["place"] ["wide"] [1] (ck (cL (pP T) hr T.iw (ae (pv 0) (ae (pv 1) aj)))) (λ_=>(aM (i:=0) (show ND9 ["place","wide"] by decide +kernel))) (λ_=>bZ) (λ_=>(cL (pO T) hr T.jB (ae (pv 1) (ae (pv 0) aj))))))),?_⟩;refine aP (σ:=[some (.ref p),some (.int n)]) rfl ?_;exists ⟨p,n,H0,R,ps,rfl,G,r100,n100,RR,λfr H2 nf s2 g2=>?_⟩;have fl:=Cd (ps:=ps) (i:=n);exists ⟨⟨_,bO.of g2⟩,?_⟩;refine dd (K:=K) (xs:=b9 (c4 ps n)) (λi ys H'=>aF H2 H'/\Paired (cI K H H') ((c4 ps n).take i |>.map λa=>iN n ((a:Nat):Int)) ys) (aN (bc (by rw[iq];lia))) ⟨aF.refl _,.nil⟩ (λi ys H' _ ⟨s,_⟩=>bO.of (s _ _ g2)) ?_ ?_
  ·rintro i v ys H' hx hlen ⟨s',pr⟩;obtain ⟨a,ea,rfl⟩:=tJ hx;have s02:=s2.trans s';exists ⟨n,a,rfl,by lia,λr H3 nr s3 R3=>?_⟩;refine ⟨s'.trans s3,?_⟩;rw[take_snoc ea,bK];exact bX (Paired.imp' (λ_ _ z=>cI.same z s3) pr) (.cons ⟨r,rfl,s02.none nr,R3⟩ .nil)
  ·rintro ys H3 hy ⟨s3,pr⟩ r hr;rw[aG (by rw[iq];exact ak _)] at pr;have sn:aF H3 (upd H3 r (.lst ys)):=aF.new hr;have s03:=s2.trans s3;exact k r _ (s03.none hr) (s03.trans sn) ⟨ys,aH,Paired.imp' (λ_ _ z=>cI.same z sn) pr,fZ (H0:=H) ⟨H3,hr,pr⟩⟩
theorem lD:aX ["system","unseen","units"] ["system"] (aK m7):=by walk_at "d"
theorem qE (T:Txt K mg Z):cE P w K mg base fw 10 Z.uo Z.tW ["system"] (EU K Z.a_System):=by
 refine T.jk.F.ok lD (λvs H Q E h=>?_) (λcdv A outer s H vs Q E hr h=>?_)
 ·obtain ⟨x,e,H0,mv,pt,lk,rfl,_⟩:=h;rfl
 ·obtain ⟨x,e,H0,mv,pt,lk,rfl,S,D,F,UF,k⟩:=h
  refine ⟨_,(aw (a8 (i:=1) lD.nd rfl (Or.inl rfl) (cL (yw T) hr T.ko (ae (pv 0) (ae (ee (pv 0) rfl) aj))))
   (aw (a8 (i:=2) lD.nd rfl (Or.inl rfl) (cL (zL T) hr T.me (ae (pv 1) (ae (ee (pv 0) rfl) aj))))
   (aA (aY (cO (ae (bI jN (pv 2) (pv 1)) (ae (bL be (by rfl) T.len aU (ae (pv 2) aj)) aj))))))),?_⟩
  refine aP (σ:=[some (.ref x),none,none]) rfl ?_;obtain ⟨dx,xa,xb,xc,gx,_⟩:=id S;have d1:=D.n8;exists ⟨x,Z.a_System,dx,_,_,rfl,gx,T.cl_System,T.na_states,gK,?_⟩;exists ⟨x,mv.length,e,H0,mv,pt,lk,rfl,by lia,S,D,F,UF,λr U H1 nr s1 G1 UE=>?_⟩;obtain ⟨R,ps,pu,M,RR,RN,_⟩:=id UE;have gx1:=s1 _ _ gx;have lU:=RN.1;have pl:=RN.le;have fl:=Cd (ps:=pu) (i:=mv.length);exists ⟨x,Z.a_System,dx,_,_,rfl,gx1,T.cl_System,T.na_states,gK,?_⟩;exists ⟨r,mv.length,H,U,pu,rfl,G1,by lia,by lia,⟨_,RN⟩,λu H2 nu s2 G2=>?_⟩;obtain ⟨us,gu,qu,_⟩:=G1.same s2;obtain ⟨vs,gv,qv,_⟩:=id G2;have lu:=qu.length;have lv:=qv.length;rw[ag] at lv;have qv':Paired (cI K H H2) _ vs:=Paired.imp' (λ_ _ ⟨q,e,n,r⟩=>⟨q,e,s1.none n,r⟩) qv;exists jK gv gu (aN (bc (by lia))) λl H3 s3 nl gl=>?_
  have s02:=s1.trans s2;have Gl:bB K H H3 l (rK U pu mv.length):=⟨_,gl,Paired.imp' (λ_ _ z=>cI.same z s3) (bX qv' qu),fZ ⟨H2,nl,bX qv' qu⟩⟩;exists ⟨_,_,rfl,.inl (bO.of (s3 _ _ gv)),?_⟩;rw[show ((vs.length:Nat):Int)=((c4 pu mv.length).length:Int) by lia];exists b6 λt H4 s4 g4=>?_
  exact k t l R ps U pu H4 RR RN (s02.none nl) ((s02.trans s3).trans s4) g4 (Gl.same s4)
theorem kJ:aX ["_law_thing","_law_part"] ["_law_thing"] (aK iU):=by walk_at "d"
theorem tH (T:Txt K mg Z):cE P w K mg base fw 2 Z.mT Z.mO ["_law_thing"] (F5 K):=by
 refine T.iD.F.ok kJ (λvs H Q E h=>?_) (λcdv A outer s H vs Q E hr h=>?_)
 ·obtain ⟨x,n,rfl,_⟩:=h;rfl
 ·obtain ⟨x,n,rfl,⟨p,rfl,hp⟩,hn,k⟩:=h
  refine ⟨_,(aw (cZ (PW.pt (kL (jM (ij (p9 rfl T.isinstance PyProof.Rows.boot_tuple T.tuple (pv 0)))) (iW (bA tD (bL be (by rfl) T.len aU (ae (pv 0) aj)) ar (bH _))))) (aA (aY mH)) bY)
   (aw (eE PassesOwn.never rfl (MH (pv 0)) (aM (i:=1) kJ.nd)
    (aA (cZ (PW.pt (kL (jM (ij (p9 rfl T.isinstance PyProof.Rows.boot_int T.int (pv 1)))) (iW (ij (p9 rfl T.isinstance PyProof.Rows.boot_bool T.bool (pv 1)))))) (aA (aY mH)) bY)))
   (aA (aY (BE (gG yu (aZ bU (pv 0) ar) ar (bH _)) (BA (gG (Il (zR hr)) (cL (fg T) hr T.dX (ae (aZ bU (pv 0) ar) (ae (aZ bU (pv 0) ar) aj))) (pv 0) (bH _)))))))),?_⟩
  refine aP (σ:=[some (.ref p),none]) rfl ?_;obtain ⟨hb,hg,_,hs⟩:=hn;exists .inr ⟨p,_,_,rfl,hp,rfl,?_⟩;exists ⟨_,_,rfl,.inr hp,?_⟩;walk_at "w"
  try refine IM ?_
  exists ⟨⟨_,hp⟩,?_⟩;refine KL (K:=K) (a:=p) (xs:=[.int n.1,.int n.2]) (λi σ' H'=>H'=H/\∃x,σ'=[some (.ref p),x]) ⟨rfl,none,rfl⟩ (λi σ' H' _ ⟨e,_⟩=>by subst e;exact hp) ?_ ?_
  ·rintro i x σ' H' hx ⟨rfl,y,rfl⟩
   obtain ⟨z,rfl⟩:∃z,x=V.int z:=by
    have hm:x∈[V.int n.1,V.int n.2]:=ax hx;simp only[aE,aV,or_false] at hm;rcases hm with e | e
    ·exact ⟨_,e⟩
    ·exact ⟨_,e⟩
   exists .inl ⟨_,_,.int z,rfl,?_⟩;exists .inl ⟨_,_,.int z,rfl,?_⟩;exists ⟨rfl,_,rfl⟩
  ·rintro σ' H' ⟨rfl,x,rfl⟩;walk_at "w";rw[decide_eq_true hb];exists ⟨n.1,n.2,rfl,hb,hs.mono (by decide),λr H' s1 h'=>?_⟩;obtain ⟨e1,e2⟩:=MR hb hg;exists ⟨_,_,Ow,(lo n.1 n.2,hi n.1 n.2),n,by decide,⟨r,rfl,kD.of h'⟩,⟨p,rfl,s1.sqt hp⟩,?_⟩;rw[e1,e2,decide_eq_true rfl];exact k _ s1
theorem xZ:aX ["_law_thing","_law_many"] ["_law_thing","_law_many"] (aK lV):=by walk_at "d"
theorem yB (T:Txt K mg Z):cE P w K mg base fw 3 Z.rh Z.qQ ["_law_thing","_law_many"] (uQ K):=by
 refine T.ky.F.ok xZ (λvs H Q E h=>?_) (λcdv A outer s H vs Q E hr h=>?_)
 ·obtain ⟨p,ns,rfl,_⟩:=h;rfl
 ·obtain ⟨p,ns,rfl,hp,hl,hn,k⟩:=h
  refine ⟨_,(aw (cZ (PW.pt (kL (jM (ij (vo rfl T.isinstance PyProof.Rows.boot_list T.list (pv 0)))) (iW (bA tD (bL be (by rfl) T.len aU (ae (pv 0) aj)) (pv 1) (bH _))))) (aA (aY mH)) bY)
   (aA (aY (bL (y8 rfl) (by rfl) T.all PyProof.Rows.boot_all (ae (bW ["_law_one"] [] [] (ck (pv 0)) (λ_=>(aM (i:=0) (show ND9 ["_law_one"] by decide +kernel))) (λ_=>bZ) (λ_=>(cL (tH T) hr T.iD (ae (pv 0) aj)))) aj))))),?_⟩
  refine aP (σ:=[some (.ref p),some (.int ns.length)]) rfl ?_;obtain ⟨xs,gx,qx⟩:=id hp;have lx:=qx.length;exists ⟨_,_,.lst gx,rfl,?_⟩;exists ⟨_,_,rfl,.inl (bO.of gx),?_⟩;walk_at "w";rw[show ((xs.length:Nat):Int)=(ns.length:Nat) by rw[lx],decide_eq_true rfl];exists ⟨⟨_,bO.of gx⟩,?_⟩;refine dd (K:=K) (xs:=xs) (λi ys H'=>aF H H'/\ys=List.replicate i (.bl true)) (aN (bc (by lia))) ⟨aF.refl _,rfl⟩ (λi ys H' _ ⟨s,_⟩=>bO.of (s _ _ gx)) ?_ ?_
  ·rintro i x ys H' hx hlen ⟨s,rfl⟩;obtain ⟨n,en,z⟩:=cJ qx hx;exists ⟨x,n,rfl,s.num z,hn n (ax en),λH2 s2=>⟨s.trans s2,by rw[AZ]⟩⟩
  ·rintro ys H' hy ⟨s,rfl⟩ l hl';exists ⟨l,List.replicate xs.length true,rfl,bO.of (by rw[aH];simp),?_⟩;have e4:(List.replicate xs.length true).all id=true:=by simp
   rw[e4];exact k _ (s.trans (aF.new hl'))
theorem xh:aX ["_law_thing","_law_many","_law_wide"] ["_law_thing","_law_many","_law_wide"] (aK kg):=by walk_at "d"
theorem xi (T:Txt K mg Z):cE P w K mg base fw 4 Z.pY Z.pW ["_law_thing","_law_many","_law_wide"] (xS K):=by
 refine T.jP.F.ok xh (λvs H Q E h=>?_) (λcdv A outer s H vs Q E hr h=>?_)
 ·obtain ⟨p,rows,m,rfl,_⟩:=h;rfl
 ·obtain ⟨p,rows,m,rfl,hp,hl,hm,hn,k⟩:=h
  refine ⟨_,(aw (cZ (PW.pt (kL (jM (ij (vo rfl T.isinstance PyProof.Rows.boot_list T.list (pv 0)))) (iW (bA tD (bL be (by rfl) T.len aU (ae (pv 0) aj)) (pv 1) (bH _))))) (aA (aY mH)) bY)
   (aA (aY (bL (y8 rfl) (by rfl) T.all PyProof.Rows.boot_all (ae (bW ["_law_row_here"] ["_law_wide"] [2] (ck (pv 0)) (λ_=>(aM (i:=0) (show ND9 ["_law_row_here","_law_wide"] by decide +kernel))) (λ_=>bZ) (λ_=>(cL (yB T) hr T.ky (ae (pv 0) (ae (pv 1) aj))))) aj))))),?_⟩
  refine aP (σ:=[some (.ref p),some (.int rows.length),some (.int m)]) rfl ?_;obtain ⟨xs,gx,qx⟩:=id hp;have lx:=qx.length;exists ⟨_,_,.lst gx,rfl,?_⟩;exists ⟨_,_,rfl,.inl (bO.of gx),?_⟩;walk_at "w";rw[show ((xs.length:Nat):Int)=(rows.length:Nat) by rw[lx],decide_eq_true rfl];exists ⟨⟨_,bO.of gx⟩,?_⟩;refine dd (K:=K) (xs:=xs) (λi ys H'=>aF H H'/\ys=List.replicate i (.bl true)) (aN (bc (by lia))) ⟨aF.refl _,rfl⟩ (λi ys H' _ ⟨s,_⟩=>bO.of (s _ _ gx)) ?_ ?_
  ·rintro i x ys H' hx hlen ⟨s,rfl⟩;obtain ⟨ns,en,q,rfl,z⟩:=cJ qx hx;obtain ⟨e1,e2⟩:=hn ns (ax en);exists ⟨q,ns,by rw[e1],z.same s,by lia,e2,λH2 s2=>⟨s.trans s2,by rw[AZ]⟩⟩
  ·rintro ys H' hy ⟨s,rfl⟩ l hl';exists ⟨l,List.replicate xs.length true,rfl,bO.of (by rw[aH];simp),?_⟩;have e4:(List.replicate xs.length true).all id=true:=by simp
   rw[e4];exact k _ (s.trans (aF.new hl'))
theorem oY:aX ["_law_other","_law_many","_law_row_here"] ["_law_other","_law_many"] (aK lX):=by walk_at "d"
theorem yC (T:Txt K mg Z):cE P w K mg base fw 1 Z.rz Z.qS ["_law_other","_law_many"] (CW K Z.a_System):=by
 refine T.kz.F.ok oY (λvs H Q E h=>?_) (λcdv A outer s H vs Q E hr h=>?_)
 ·obtain ⟨x,r,H0,mv,pt,lk,rfl,_⟩:=h;rfl
 ·obtain ⟨x,r,H0,mv,pt,lk,rfl,S,D,rn,hm,hp,k⟩:=h
  refine ⟨_,(aw (eE PassesOwn.never rfl (ck (bI jN (pK (xW K (by rfl)) (ee (pv 0) rfl) tm (tj (pv 1))) (ee (pv 0) rfl))) (aM (i:=2) oY.nd)
    (aA (cZ (bA (vp (zR hr)) (pK (xW K (by rfl)) (pv 2) (tj (pv 1)) tm) (bI Ed (eF (ae (cO (ae ar (ae ar aj))) aj)) (bI gM (bL be (by rfl) T.len aU (ae (pv 2) aj)) (pv 1))) (bH _)) (aA (aY mH)) bY)))
   (aA (aY mH))),?_⟩
  refine aP (σ:=[some (.ref x),some (.int r),none]) rfl ?_;obtain ⟨dx,xa,xb,xc,gx,n1,n2,n3,Ga,Gb,Gc⟩:=id S;have d1:=D.n8;have d3:=D.o4;obtain ⟨ms,gm,qm,_⟩:=id Ga;have lm:=qm.length;exists ⟨x,Z.a_System,dx,_,_,rfl,gx,T.cl_System,T.na_move,sP,?_⟩;exists Bx (bO.of gm) λl1 H1 s1 _ g1=>?_
  rw[Jq (by lia)] at g1;have gx1:=s1 _ _ gx;obtain ⟨ls,gl,ql,_⟩:=Gc.same s1;have ll:=ql.length;exists ⟨x,Z.a_System,dx,_,_,rfl,gx1,T.cl_System,T.na_look,sQ,?_⟩;exists jK g1 gl (aN (bc (by rw[cN];lia))) λl2 H2 s2 _ g2=>?_
  have s02:=s1.trans s2;have pq:Paired (cI K H0 H2) (mv.take r++lk) (ms.take r++ls):=bX (Paired.imp' (λ_ _ z=>cI.same z s02) (pL qm r)) (Paired.imp' (λ_ _ z=>cI.same z s2) ql)
  have hb:∀xs∈mv.take r++lk,xs.length=mv.length/\xs.drop r=List.replicate (mv.length - r) 0:=λxs hx=>by
   rcases au.mp hx with hx | hx
   ·exact ⟨D.mw xs (cH hx),hm xs hx⟩
   ·exact ⟨D.lw xs hx,hp xs hx⟩
  exists ⟨⟨_,bO.of g2⟩,?_⟩;refine jD (K:=K) (a:=l2) (xs:=ms.take r++ls) (λi σ' H'=>aF H2 H'/\∃y,σ'=[some (.ref x),some (.int r),y]) ⟨aF.refl _,_,rfl⟩ (λi σ' H' _ ⟨s,_⟩=>bO.of (s _ _ g2)) ?_ ?_
  ·rintro i v σ' H' hv ⟨s,y,rfl⟩;obtain ⟨row,er,u,rfl,_,Ru⟩:=cJ pq hv;obtain ⟨wr,hz⟩:=hb row (ax er);obtain ⟨us,gu,qu⟩:=Ru.same s;have lu:=qu.length;exists Bx (bO.of gu) λl2 H3' s2' _ g2=>?_
   rw[DA] at g2;exists b6 λt H3 s3 g3=>?_
   exists dB λL H4 s4 n4 g4=>?_
   have s24:=s3.trans s4;exists ⟨_,_,rfl,.inl (bO.of (s24 _ _ (s2' _ _ gu))),?_⟩;walk_at "w";rw[show ((us.length:Nat):Int) - (r:Int)=((mv.length - r:Nat):Int) by lia];refine D9 (k:=mv.length - r) g4 (by lia) λz H5 s5 n5 g5=>?_
   have s35:=s4.trans s5;have s25:=s3.trans s35
   have R1:dC K H5 l2 (List.replicate (mv.length - r) 0):=by
    rw[<- hz];exact ⟨_,s25 _ _ g2,Paired.imp' (λ_ _ z=>cb.same z (s2'.trans s25)) (lZ qu r)⟩
   have R2:dC K H5 z (List.replicate (mv.length - r) 0):=⟨_,g5,nG (cb.mk (q:=0) (s35 _ _ g3) rfl) _⟩;exists ⟨_,_,IJ,_,_,by decide,R1.kind,R2.kind,?_⟩;rw[decide_eq_true rfl];exists ⟨(s.trans s2').trans s25,_,rfl⟩
  ·rintro σ' H' ⟨s,y,rfl⟩;exists k H' (s02.trans s)
theorem Bi:aX ["many"] ["many"] (aK o3):=by walk_at "d"
theorem BH (T:Txt K mg Z):cE P w K mg base fw 2 Z.wC Z.vV ["many"] (F1 K):=by
 refine T.nU.F.ok Bi (λvs H Q E h=>?_) (λcdv A outer s H vs Q E hr h=>?_)
 ·obtain ⟨m,rfl,_⟩:=h;rfl
 ·obtain ⟨m,rfl,hm,k⟩:=h;refine ⟨_,(aA (aY (bW ["at"] ["many"] [0] (b7 rfl T.range (ae (pv 0) aj)) (λ_=>(aM (i:=0) (show ND9 ["at","many"] by decide +kernel))) (λ_=>bZ) (λ_=>(cL (pO T) hr T.jB (ae (pv 1) (ae (pv 0) aj))))))),?_⟩;refine aP (σ:=[some (.int m)]) rfl ?_;exists ⟨by lia,by lia,?_⟩;refine fb (n:=m) (cI K H) (λi=>iN m i) hm (λa b=>a.same b) ?_ ?_
  ·rintro i H' NY NN hi s k1;exists ⟨m,i,rfl,hm,λr H2 n2 s2 h2=>k1 _ _ s2 ⟨r,rfl,s.none n2,h2⟩⟩
  ·rintro ys H' l hl s g pr nx;exact k l _ hl s ⟨ys,g,pr,fZ nx⟩
theorem rL:aX ["grid","many","joined"] ["grid"] (aK uZ):=by walk_at "d"
theorem Eh (T:Txt K mg Z):cE P w K mg base fw 6 Z.AQ Z.Av ["grid"] (vP K):=by
 refine T.sC.F.ok rL (λvs H Q E h=>?_) (λcdv A outer s H vs Q E hr h=>?_)
 ·obtain ⟨p,n,w,H0,A,rfl,_⟩:=h;rfl
 ·obtain ⟨p,n,w,H0,A,rfl,G,SA,n40,F,k1,k2⟩:=h
  refine ⟨_,(aw (a8 (i:=1) rL.nd rfl (Or.inr rfl) (bL be (by rfl) T.len aU (ae (pv 0) aj)))
   (aw (a8 (i:=2) rL.nd rfl (Or.inl rfl) (cL (nJ T) hr T.i5 (ae (bW ["row","unit"] [] [] (xu rfl T.zip (ae (pv 0) (ae (cL (BH T) hr T.nU (ae (pv 1) aj)) aj))) (λ_=>(tw K 2 (c7 (aM (i:=0) (show ND9 ["row","unit"] by decide +kernel)) (c7 (aM (i:=1) (show ND9 ["row","unit"] by decide +kernel)) jV)))) (λ_=>bZ) (λ_=>(bI jN (pv 0) (pv 1)))) (ae (bI cQ ar (pv 1)) aj))))
   (aw (cZ (bA (vp (zR hr)) (cL (rY T) hr T.ks (ae (pv 2) aj)) (BD rfl T.list rfl T.range (ae (pv 1) aj)) (bH _)) (aA (aY BB)) bY)
   (aA (aY (bW ["row"] ["many"] [1] (ck (pv 2)) (λ_=>(aM (i:=0) (show ND9 ["row","many"] by decide +kernel))) (λ_=>bZ) (λ_=>(pK (xW K (by rfl)) (pv 0) (tj (pv 1)) tm)))))))),?_⟩
  refine aP (σ:=[some (.ref p),none,none]) rfl ?_;obtain ⟨lA,wA⟩:=id SA;obtain ⟨xs,gx,qx,_⟩:=id G;have lx:=qx.length;obtain ⟨lU,wU⟩:=xG (n:=n);have lj:(qi A (dg n)).length=n:=by rw[vD (by lia),lA]
  exists ⟨_,_,rfl,.inl (bO.of gx),?_⟩;rw[show ((xs.length:Nat):Int)=((n:Nat):Int) by lia];exists ⟨n,rfl,by lia,λu H1 nu s1 U1=>?_⟩;obtain ⟨us,gu,qu,_⟩:=id U1;have lu:=qu.length;exists ⟨⟨_,bO.of (s1 _ _ gx)⟩,⟨_,bO.of gu⟩,?_⟩;refine y4 (K:=K) (xs:=xs) (ws:=us) (λi ys H'=>aF H1 H'/\Paired (cI K H H') ((qi A (dg n)).take i) ys) (aN (bc (by lia))) (by lia) ⟨aF.refl _,.nil⟩ (λi ys H' _ ⟨s,_⟩=>⟨bO.of (s _ _ (s1 _ _ gx)),bO.of (s _ _ gu)⟩) ?_ ?_
  ·rintro i v1 v2 ys H' r h1 h2 hy ⟨s,pr⟩ hr;obtain ⟨row,er,a1,rfl,_,Ra⟩:=cJ qx h1;obtain ⟨un,eu,a2,rfl,_,Ru⟩:=cJ qu h2;have wr:=wA row (ax er);have wn:=wU un (ax eu);have sr:aF H' (upd H' r (.tup [.ref a1,.ref a2])):=aF.new hr;have gr:(upd H' r (.tup [.ref a1,.ref a2])) r=some (.tup [.ref a1,.ref a2]):=aH;generalize upd H' r (.tup [.ref a1,.ref a2])=H2 at sr gr ⊢;have s2:=s.trans sr;obtain ⟨zs,gz,qz⟩:=Ra.same (s1.trans s2);obtain ⟨ys',gy,qy⟩:=Ru.same s2;have lz:=qz.length;have ly:=qy.length;exists jK gz gy (aN (bc (by lia))) λl2 H4 s4 n4 g4=>?_
   refine ⟨s2.trans s4,?_⟩;rw[take_snoc (IL er eu)];exact bX (Paired.imp' (λ_ _ z=>cI.same z (sr.trans s4)) pr) (.cons ⟨l2,rfl,(s1.trans s2).none n4,_,g4,Paired.imp' (λ_ _ z=>cb.same z s4) (bX qz qy)⟩ .nil)
  rintro ys H2 hy ⟨s2,pr⟩ l hl;have sn:aF H2 (upd H2 l (.lst ys)):=aF.new hl;have gn:(upd H2 l (.lst ys)) l=some (.lst ys):=aH;rw[aG (by lia)] at pr;generalize upd H2 l (.lst ys)=H3 at sn gn ⊢;have GJ:bB K H H3 l (qi A (dg n)):=vF pr sn hl gn;have s03:=s1.trans (s2.trans sn);walk_at "w";rw[show (2*(n:Int))=((n+n:Nat):Int) by lia];refine ⟨l,n+n,w,H,_,rfl,GJ,by lia,by lia,BY wA wU,F,λjd R ps M H4 nj s4 G4 RR pm M0 M1 tM=>?_⟩;rw[lj,show min n (n+n)=n by lia] at M1 tM;rw[lj] at pm;have s04:=s03.trans s4;have lR:=RR.1;have wR:=RR.2.1;exists ⟨jd,n+n,H3,R,ps,rfl,G4,by lia,by lia,⟨_,RR⟩,λle H5 nle s5 g5=>?_⟩;walk_at "w";unfold xH;exists ⟨by lia,λrl H6 s6 n6 g6=>?_⟩;have s06:=(s04.trans s5).trans s6;exists ⟨_,_,IK Eo,pT ps,pT (List.range n),by decide,qd (s6 _ _ g5),qd g6,?_⟩;by_cases e:ps=List.range n
  ·subst e;rw[decide_eq_true rfl];obtain ⟨vs,gv,qv,_⟩:=G4.same (s5.trans s6);have lv:=qv.length;rw[bR] at lR;exists ⟨⟨_,bO.of gv⟩,?_⟩;refine dd (K:=K) (xs:=vs) (λi ys H'=>aF H6 H'/\Paired (cI K H H') ((R.map λxs=>xs.drop n).take i) ys) (aN (bc (by lia))) ⟨aF.refl _,.nil⟩ (λi ys H' _ ⟨s,_⟩=>bO.of (s _ _ gv)) ?_ ?_
   ·rintro i v ys H' hx hlen ⟨s',pr⟩;obtain ⟨row,er,q,rfl,_,Rr⟩:=cJ qv hx;have wr:=wR row (ax er);obtain ⟨zs,gz,qz⟩:=Rr.same s';have lz:=qz.length;exists Bx (bO.of gz) λl3 H8 s8 n8 g8=>?_
    rw[DA] at g8;refine ⟨s'.trans s8,?_⟩;rw[take_snoc (show (R.map λxs=>xs.drop n)[i]?=some (row.drop n) by rw[aD,er];rfl)];exact bX (Paired.imp' (λ_ _ z=>cI.same z s8) pr) (.cons ⟨l3,rfl,s06.none (s'.none n8),_,g8,Paired.imp' (λ_ _ z=>cb.same z s8) (lZ qz n)⟩ .nil)
   rintro ys3 H7 hy3 ⟨s7,pr3⟩ l3 hl3;have sn3:aF H7 (upd H7 l3 (.lst ys3)):=aF.new hl3;rw[aG (by rw[ag];lia)] at pr3;have s07:=s06.trans s7;refine k1 l3 R M _ RR (s07.none hl3) (s07.trans sn3) (vF pr3 sn3 hl3 aH) M0 M1 λxs hx x hx'=>?_
   obtain ⟨y,hy,rfl⟩:=ay.mp hx;exact tM y hy x (List.mem_of_mem_drop hx')
  ·rw[decide_eq_false (λz=>e (Ds z))];exists k2 R ps H6 RR pm e s06
theorem qq:aX ["one","other","wide","columns"] ["one","other","wide"] (aK ng):=by walk_at "d"
theorem qF (T:Txt K mg Z):cE P w K mg base fw 6 Z.uv Z.tZ ["one","other","wide"] (xT K):=by
 refine T.jm.F.ok qq (λvs H Q E h=>?_) (λcdv A outer s H vs Q E hr h=>?_)
 ·obtain ⟨p,q,w,H0,H1,one,other,rfl,_⟩:=h;rfl
 ·obtain ⟨p,q,w,H0,H1,one,other,rfl,hp,hq,z1,z2,hw,h1,h2,kk⟩:=h
  refine ⟨_,(aw (a8 (i:=3) qq.nd rfl (Or.inr rfl) (cL (ki T) hr T.fP (ae (pv 1) (ae (pv 2) aj))))
   (aA (aY (bW ["line"] ["columns"] [3] (ck (pv 0)) (λ_=>(aM (i:=0) (show ND9 ["line","columns"] by decide +kernel))) (λ_=>bZ) (λ_=>(cL (nK T) hr T.ja (ae (pv 1) (ae (pv 0) aj)))))))),?_⟩
  refine aP (σ:=[some (.ref p),some (.ref q),some (.int w),none]) rfl ?_;exists ⟨q,w,H1,other,rfl,hq,z2,hw,h2,λc H2 nc s2 hc=>?_⟩;obtain ⟨xs,gx,qx,_⟩:=hp.same s2;exists ⟨⟨_,bO.of gx⟩,?_⟩;refine c8 (K:=K) (F:=cI K H0) (cI K H) (λxs=>(bQ other w).map λys=>eL ys xs) gx qx z1 (λa b=>a.same b) (λa b=>a.same b) ?_ ?_
  ·rintro i ns x H3 NY NN en s3 ⟨u,rfl,_,hu⟩ k;obtain ⟨e1,e2⟩:=h1 ns (ax en);exists ⟨c,u,H,bQ other w,ns,rfl,hc.same s3,hu,by simp [bQ];lia,by lia,λys hy=>⟨?_,e2 ys hy⟩,λr H4 nr s4 hr=>k _ _ s4 ⟨r,rfl,s2.none (s3.none nr),hr⟩⟩;obtain ⟨j,_,rfl⟩:=ay.mp hy;rw[ag];exact e1.symm
  ·rintro ys' H3 r hr s3 g pr nx;exact kk r H3 (s2.none hr) (s2.trans s3) ⟨ys',g,pr,fZ nx⟩
theorem gU:aX ["system","rows","wide","to_state","to_numbers","move","put"] ["system","rows"] (aK rQ):=by walk_at "d"
theorem Dd (T:Txt K mg Z):cE P w K mg base fw 7 Z.zg Z.yU ["system","rows"] (CU K Z.a_System):=by
 refine T.pQ.F.ok gU (λvs H Q E h=>?_) (λcdv A outer s H vs Q E hr h=>?_)
 ·obtain ⟨x,r,w,H0,H1,mv,pt,lk,rows,inv,rfl,_⟩:=h;rfl
 ·obtain ⟨x,r,w,H0,H1,mv,pt,lk,rows,inv,rfl,S,D,G,hR,sw,iv,hi,F,kQ⟩:=h
  refine ⟨_,(aw (a8 (i:=2) gU.nd rfl (Or.inl rfl) (ee (pv 0) rfl))
   (aw (a8 (i:=3) gU.nd rfl (Or.inl rfl) (cL (ki T) hr T.fP (ae (pv 1) (ae (pv 2) aj))))
   (aw (a8 (i:=4) gU.nd rfl (Or.inr rfl) (cL (Eh T) hr T.sC (ae (pv 3) aj)))
   (aw (cZ (bA ML (pv 4) BB (bH _)) (aA E8) bY)
   (aw (a8 (i:=5) gU.nd rfl (Or.inl rfl) (cL (qF T) hr T.jm (ae (cL (qF T) hr T.jm (ae (pv 4) (ae (ee (pv 0) rfl) (ae (pv 2) aj)))) (ae (pv 3) (ae (pv 2) aj)))))
   (aw (gF 6 ["row"] ["to_numbers"] [4] gU.nd rfl rfl (ck (ee (pv 0) rfl)) (λ_=>(aM (i:=0) (show ND9 ["row","to_numbers"] by decide +kernel))) (λ_=>bZ) (λ_=>(cL (nK T) hr T.ja (ae (pv 1) (ae (pv 0) aj)))))
   (aA (aY (BC T.mk_System (gN T) (hr.mono (by decide)) rfl T.mg_System T.fG .nil Dc (ae (pv 5) (ae (pv 6) (ae (bW ["row"] ["rows"] [1] (ck (ee (pv 0) rfl)) (λ_=>(aM (i:=0) (show ND9 ["row","rows"] by decide +kernel))) (λ_=>bZ) (λ_=>(cL (nK T) hr T.ja (ae (pv 1) (ae (pv 0) aj))))) aj)))))))))))),?_⟩
  refine aP (σ:=[some (.ref x),some (.ref r),none,none,none,none,none]) rfl ?_;obtain ⟨dx,xa,xb,xc,gx,n1,n2,n3,Ga,Gb,Gc⟩:=id S;have d1:=D.n8;have d2:=D.i4;have d3:=D.o4;have lr:=hR.1;exists ⟨x,Z.a_System,dx,_,_,rfl,gx,T.cl_System,T.na_states,gK,?_⟩;exists ⟨r,mv.length,H1,rows,rfl,G,by lia,by lia,hR.2,λt H2 n2' s2 Gt=>?_⟩;exists ⟨t,mv.length,w,H,bQ rows mv.length,rfl,Gt,sN hR,by lia,sw,λi R M H3 RR ni s3 Gi M0 M1' tp=>?_,λR ps H3 RR _ ne s3=>absurd (iv R ps RR).1 ne⟩;rw[(iv _ _ RR).2] at Gi;have D':=Fs D hi hR;have li:=hi.1;have s13:=s2.trans s3;have gx3:=s13 _ _ gx;have Ga3:=Ga.same s13;exists ⟨rfl,?_⟩;rw[decide_eq_false (λz=>nomatch z)];exists ⟨x,Z.a_System,dx,_,_,rfl,gx3,T.cl_System,T.na_move,sP,?_⟩;exists ⟨i,xa,mv.length,H2,H0,inv,mv,rfl,Gi,Ga3,by lia,by lia,by lia,λxs hx=>⟨hi.2 xs hx,λys hy=>F.f1 xs hx ys hy⟩,D.mw,λm1 H4 n4 s4 G4=>?_⟩;exists ⟨m1,t,mv.length,H3,H,fK inv mv mv.length,bQ rows mv.length,rfl,G4,(Gt.same s3).same s4,by unfold fK;rw[ag];lia,by rw[cW];lia,by lia,λxs hx=>⟨by rw[La xs hx,cW],F.f2 xs hx⟩,(sN hR).2,λm2 H5 n5 s5 G5=>?_⟩;have s35:=s4.trans s5;have s15:=s13.trans s35;have gx5:=s15 _ _ gx;have Gi5:=Gi.same s35;obtain ⟨bs,gb,qb,_⟩:=Gb.same s15;have lb:=qb.length;exists ⟨x,Z.a_System,dx,_,_,rfl,gx5,T.cl_System,T.na_put,Bc,?_⟩;exists ⟨⟨_,bO.of gb⟩,?_⟩;refine c8 (K:=K) (as:=pt) (F:=cI K H0) (cI K H5) (λxs=>inv.map λr=>eL r xs) gb qb (by lia) (λa b=>a.same b) (λa b=>a.same b) ?_ ?_
  ·rintro j xs y H6 NY NN ex s6 ⟨u,rfl,_,Ru⟩ k1;have mx:=ax ex;exists ⟨i,u,H2,inv,xs,rfl,Gi5.same s6,Ru,by lia,by rw[D.pw xs mx];lia,λzs hz=>⟨by rw[hi.2 zs hz,D.pw xs mx],F.f3 xs mx zs hz⟩,λv H7 n7 s7 R7=>?_⟩;exact k1 _ _ s7 ⟨v,rfl,s6.none n7,R7⟩
  rintro ysP H6 pp np s6 gp prp nxp;have Gp:bB K H5 H6 pp (Nx inv pt):=⟨ysP,gp,prp,fZ nxp⟩;clear gp prp nxp gb qb lb;have s16:=s15.trans s6;have gx6:=s16 _ _ gx;obtain ⟨cs,gc,qc,_⟩:=Gc.same s16;have lc:=qc.length;exists ⟨x,Z.a_System,dx,_,_,rfl,gx6,T.cl_System,T.na_look,sQ,?_⟩;exists ⟨⟨_,bO.of gc⟩,?_⟩;refine c8 (K:=K) (as:=lk) (F:=cI K H0) (cI K H6) (λxs=>rows.map λr=>eL r xs) gc qc (by lia) (λa b=>a.same b) (λa b=>a.same b) ?_ ?_
  ·rintro j xs y H7 NY NN ex s7 ⟨u,rfl,_,Ru⟩ k1;have mx:=ax ex;exists ⟨r,u,H1,rows,xs,rfl,(G.same s16).same s7,Ru,by lia,by rw[D.lw xs mx];lia,λzs hz=>⟨by rw[hR.2 zs hz,D.lw xs mx],F.f4 xs mx zs hz⟩,λv H8 n8 s8 R8=>?_⟩;exact k1 _ _ s8 ⟨v,rfl,s7.none n8,R8⟩
  rintro ysL H7 ll nl s7 gl prl nxl;have Gl:bB K H6 H7 ll (lk.map λxs=>rows.map λr=>eL r xs):=⟨ysL,gl,prl,fZ nxl⟩;clear gl prl nxl gc qc lc;have s17:=s16.trans s7;walk_at "w";intro z' dz nz ndz nez;exact ⟨z',dz,m2,pp,ll,H7,H4,H5,H6,_,_,_,rfl,nz,ndz,nez,rfl,(G5.same s6).same s7,Gp.same s7,Gl,D',F.g1,F.g2,F.g3,λH9 s9 S9=>⟨rfl,kQ z' H9 (s17.trans s9) (S9.weak s17)⟩⟩
theorem lE:aX ["_law_script","_law_bag_here","_law_parts_here","_law_wide","_law_n","_law_system_here","_law_rows","_law_units","_law_found","_law_row_here"] ["_law_script"] (aK HS):=by walk_at "d"
theorem MM (T:Txt K mg Z):cE P w K mg base fw 11 Z.LP Z.LO ["_law_script"] (xR K):=by
 refine T.LV.ok lE (λvs H Q E h=>?_) (λcdv A outer s H vs Q E hr h=>?_)
 ·obtain ⟨a0,ns,rfl,_⟩:=h;rfl
 ·obtain ⟨a0,ns,rfl,hS,hlen,k⟩:=h
  refine ⟨_,(aw (a8 (i:=1) lE.nd rfl (Or.inl rfl) (cL (Dg T) hr T.pS (ae (pv 0) aj)))
   (aw (eV (cL (yz T) hr T.kv (ae (pv 1) aj)) (yn rfl (c7 (aM (i:=2) lE.nd) (c7 (aM (i:=3) lE.nd) jV))))
   (aw (a8 (i:=4) lE.nd rfl (Or.inr rfl) (bL be (by rfl) T.len aU (ae (aZ bU (pv 2) ar) aj)))
   (aw (a8 (i:=5) lE.nd rfl (Or.inl rfl) (cL (BN T) hr T.oa (ae (pv 2) aj)))
   (aw (a8 (i:=6) lE.nd rfl (Or.inl rfl) (cL (yy T) hr T.ku (ae (pv 2) aj)))
   (aw (gF 7 ["_law_at"] ["_law_n"] [4] lE.nd rfl rfl (ck (cL (nM T) hr T.iE (ae (pv 6) (ae (pv 4) aj)))) (λ_=>(aM (i:=0) (show ND9 ["_law_at","_law_n"] by decide +kernel))) (λ_=>bZ) (λ_=>(cL (tE T) hr T.jY (ae (pv 1) (ae (pv 0) aj)))))
   (aw (a8 (i:=8) lE.nd rfl (Or.inl rfl) (cL (qE T) hr T.jk (ae (pv 5) aj)))
   (aw (cZ (PW.pt (kL (jM (ij (p9 rfl T.isinstance PyProof.Rows.boot_tuple T.tuple (pv 8)))) (kL (bA tD (bL be (by rfl) T.len aU (ae (pv 8) aj)) ar (bH _)) (iW (jM (ij (cL (xi T) hr T.jP (ae (aZ bU (pv 8) ar) (ae (pv 4) (ae (pv 4) aj)))))))))) (aA (aY mH)) bY)
   (aw (cZ (PW.pt (kL (bA (vp (zR hr)) (pv 8) (cO (ae (bI jN (pv 7) (pv 6)) (ae (bL be (by rfl) T.len aU (ae (pv 7) aj)) aj))) (bH _)) (iW (ij (p9 rfl T.isinstance PyProof.Rows.boot_bool T.bool (aZ bU (pv 8) ar)))))) (aA (aY mH)) bY)
   (aw (eE PassesOwn.never rfl (ck (aZ bU (pv 8) ar)) (aM (i:=9) lE.nd)
    (aA (ji (tx cM dm dk iZ (pv 9) (ae (cO (ae ar (ae ar aj))) aj)))))
   (aw (cZ (bA (vp (zR hr)) (cL (qE T) hr T.jk (ae (pv 5) aj)) (cO (ae (bI jN (pv 7) (pv 6)) (ae (bL be (by rfl) T.len aU (ae (pv 7) aj)) aj))) (bH _)) (aA (aY mH)) bY)
   (aA (aY (BE (cL (yC T) hr T.kz (ae (cL (Dd T) hr T.pQ (ae (pv 5) (ae (bI jN (pv 7) (pv 6)) aj))) (ae (bL be (by rfl) T.len aU (ae (pv 7) aj)) aj))) (BA (gG (Il (zR hr)) (ee (pv 5) rfl) (aZ bU (pv 2) ar) (bH _))))))))))))))))),?_⟩
  refine aP (σ:=[some (.ref a0),none,none,none,none,none,none,none,none,none]) rfl ?_;exists ⟨a0,ns,rfl,hS,hlen,λb H0 hb0 B0 s0=>?_⟩;exists ⟨b,rfl,B0,λt1 r w mv pt lk H1 g1 P1 D F RG RL w1 w2 B1 u1=>?_⟩;have n8:=D.n8;have i4:=D.i4;have o4:=D.o4;have et:(bQ mv mv.length).length=mv.length:=cW
  have w3:9 < w->mv.length<=2:=λh=>by
   rcases RG with ⟨w9,_⟩ | ⟨w9,_⟩ | ⟨_,n2,_⟩
   ·lia
   ·lia
   ·exact n2
  obtain ⟨m0,p0,l0,gr,nm0,np0,nl0,Gm,Gp,Gl⟩:=id P1;obtain ⟨ms,gm,qm,_⟩:=id Gm;have lm:=qm.length;obtain ⟨AD,SK,LK⟩:=MW RL D.turn;obtain ⟨e9,V5⟩:=J6 (T:=mv.length) RL D.turn (by rw[et];exact ⟨by lia,λh=>by have:=w3 h;lia,λ_ h=>h,λh=>by lia⟩);have UF:=V5.un;clear V5;obtain ⟨Y1,Y2,Y3,Y4,Y5,Y6,Y7,Y8,Y9,Y0⟩:=Oc RL D.turn (T:=0) ⟨by decide,.inl (by decide)⟩
  have LN:∀R ps,aR (kry (bQ mv mv.length) lk mv.length) mv.length R ps->∃S',Jz (a7 R ps mv.length) mv.length S':=λR ps RR=>by
   have:=(Y0.nu D.turn (R:=R) (ps:=ps) (by rw[et];exact RR)).lw;rwa [et] at this
  clear Y0;rw[et] at AD LK;exists ⟨_,_,rfl,.inl (bO.of gm),?_⟩;rw[show ((ms.length:Nat):Int)=(mv.length:Int) by lia];exists ⟨r,H0,mv,pt,lk,rfl,P1,D,F.sf,λx H2 nx s2 S2=>?_⟩;exists ⟨r,SK,H0,mv,pt,lk,rfl,P1.same s2,D,AD,LK,LN,λl R ps U pu H3 RR RN nl s3 G3=>?_⟩;have lU:=RN.1;have pl:=RN.le;have cn:=tP RN;exists ⟨l,mv.length,H2,U,pu,rfl,G3,by lia,by lia,⟨_,RN⟩,λfr H5 nf s5 g5=>?_⟩;exists ⟨⟨_,bO.of g5⟩,?_⟩;refine dd (K:=K) (xs:=b9 (c4 pu mv.length)) (λi ys H'=>aF H5 H'/\Paired (cI K H3 H') ((c4 pu mv.length).take i |>.map λa=>iN mv.length ((a:Nat):Int)) ys) (aN (bc (by rw[iq];lia))) ⟨aF.refl _,.nil⟩ (λi ys H' _ ⟨s,_⟩=>bO.of (s _ _ g5)) ?_ ?_
  ·rintro i v ys H' hx hlen ⟨s',pr⟩;obtain ⟨p,ea,rfl⟩:=tJ hx;have s02:=s5.trans s';exists ⟨mv.length,p,rfl,by lia,λr' H6 nr s6 R6=>?_⟩;refine ⟨s'.trans s6,?_⟩;rw[take_snoc ea,bK];exact bX (Paired.imp' (λ_ _ z=>cI.same z s6) pr) (.cons ⟨r',rfl,s02.none nr,R6⟩ .nil)
  rintro ys H6' hy ⟨s6',pr⟩ ul hul;rw[aG (by rw[iq];exact ak _)] at pr;have lys:=pr.length;rw[ag] at lys;have sn:aF H6' (upd H6' ul (.lst ys)):=aF.new hul;have gul:(upd H6' ul (.lst ys)) ul=some (.lst ys):=aH;replace pr:=Paired.imp' (λ_ _ z=>cI.same z sn) pr;generalize upd H6' ul (.lst ys)=H6 at sn gul pr ⊢;have s36:=s5.trans (s6'.trans sn);obtain ⟨us,gu,qu,_⟩:=G3.same s36;have lu:=qu.length;have pq:Paired (cI K H2 H6) (rK U pu mv.length) (ys++us):=bX (Paired.imp' (λ_ _ ⟨q,e,n,r⟩=>⟨q,e,s3.none n,r⟩) pr) qu;have catG:∀{Hx Hy dl},aF H6 Hx->Hx dl=none->aF Hx Hy->Hy dl=some (.lst (ys++us))->bB K H2 Hy dl (rK U pu mv.length):=λsx nd sy gd=>⟨_,gd,Paired.imp' (λ_ _ z=>cI.same z (sx.trans sy)) pq,fZ ⟨_,nd,Paired.imp' (λ_ _ z=>cI.same z sx) pq⟩⟩
  have s26:=s3.trans s36;clear pr qu pq;obtain ⟨q9,E,q0,q1,E1,E2,tU⟩:=L5 (U:=U) RL D.turn (R:=R) (ps:=ps) (pu:=pu) (by rw[et];exact RR) (by rw[et];exact RN);obtain ⟨M1,M2,V9,a1,a2,c9,z⟩:=L4 RG F n8 q0 q1 E1 E2 tU;have hB:=E5 RN;have hC:=xr RN;have lB:=hB.1;have tb:∀xs∈rK U pu mv.length,∀x∈xs,Tp q9 (2^E) x:=λxs hx=>z.tb xs (E6.mp hx)
  obtain ⟨FT,SW⟩:=Pj z n8 hB hC tb λxs hx=>z.tc RN xs (E4.mp hx)
  have okB:∀ns∈(rK U pu mv.length).map (List.map nm),ns.length=mv.length/\∀n∈ns,uF n:=λns hn=>by
   obtain ⟨qs,hq,rfl⟩:=ay.mp hn;refine ⟨by rw[ag];exact hB.2 qs hq,λn hn=>?_⟩;obtain ⟨y,hy,rfl⟩:=ay.mp hn;exact A8 (rH (tb qs hq y hy) z.q0 (ai z.q1 (ao (by decide) (by lia))) (ao (by decide) (by lia)))
  have RB:aR (lk++R.map (qD (bQ mv mv.length))) mv.length R ps:=by
   obtain ⟨a',c',KF,_⟩:=UF.kf;have:=NU KF UF.n8 UF.wm UF.wp (R:=R) (ps:=ps) (by rw[et];exact RR);rwa [et] at this
  exists ⟨x,e9,H1,mv,pt,lk,rfl,S2.same s26,D,F,UF,λft fp R' ps' U' pu' H8 RR' RN' nfp s8 gft Gf=>?_⟩;obtain ⟨rfl,rfl⟩:=RR'.same RR;obtain ⟨rfl,rfl⟩:=RN'.same RN;clear RR' RN';exists .inr ⟨ft,_,_,rfl,kD.of gft,rfl,?_⟩;exists ⟨_,_,rfl,.inr (kD.of gft),?_⟩;walk_at "w"
  try refine IM ?_
  exists ⟨fp,_,mv.length,by rw[ag,lB],Gf.gridK,by rw[ag,lB];lia,by lia,okB,λH9 s9=>?_⟩;have s69:=s8.trans s9;have gf9:=s9 _ _ gft;exists jK (s69 _ _ gul) (s69 _ _ gu) (aN (bc (by lia))) λd1 Ha sa nd1 gd1=>?_
  have Gd1:=catG s69 nd1 sa gd1;have s6a:=s69.trans sa;exists ⟨_,_,rfl,.inl (bO.of (s6a _ _ gul)),?_⟩;rw[show ((ys.length:Nat):Int)=((c4 pu' mv.length).length:Int) by lia];exists b6 λt3 HA sA gA=>?_
  have s9A:=(s9.trans sa).trans sA;have gfA:=s9A _ _ gft;exists ⟨_,_,Lz BW Eo,(rK U' pu' mv.length,((c4 pu' mv.length).length:Int)),(rK U' pu' mv.length,((c4 pu' mv.length).length:Int)),by decide,⟨ft,_,_,rfl,kD.of gfA,(Gf.same s9A).kind,rfl⟩,⟨t3,_,_,rfl,kD.of gA,(Gd1.same sA).kind,rfl⟩,?_⟩;rw[decide_eq_true rfl];exists .inl ⟨_,false,.int _,rfl,?_⟩;walk_at "w";obtain ⟨zs,L0,lz⟩:=LL.of (B:=mv.length) (N:=λq=>H6 q=none) Gf (λxs hx=>by rw[hB.2 xs hx];exact ak _) (λq h _=>h);have Lg:=L0.same s9A;exists ⟨⟨_,bO.of Lg.1⟩,?_⟩;refine jD (K:=K) (a:=fp) (xs:=zs) (λi2 σ' H'=>aF H6 H'/\LL (λq=>H6 q=none) (mv.length+i2) H' fp zs/\∃y2,σ'=[some (.ref a0),some (.ref b),some (.ref r),some (.int w),some (.int mv.length),some (.ref x),some (.ref l),some (.ref ul),some (.ref ft),y2]) ⟨s8.trans s9A,Lg,_,rfl⟩ (λi σ' H' _ ⟨_,L,_⟩=>bO.of L.1) ?_ ?_
  ·rintro i2 v σ' Hi hv ⟨ei,Li,y2,rfl⟩;have hi2:=(aB.mp hv).1;obtain ⟨q,ws,rfl,nq,qt,gq,lq⟩:=Li.2 v (ax hv);exists ⟨.inl ⟨rfl,_,bO.of gq⟩,?_⟩;exists b6 λt2 Hj sj gj=>?_
   have gqj:=sj _ _ gq;exists iV gqj (bc (by lia)) ?_;exact ⟨(ei.trans sj).after nq,(Li.same sj).upd qt (by lia) (by rw[av,bf];lia),_,rfl⟩
  rintro σ' Hm ⟨sm,_,y2,rfl⟩;clear Lg L0;have s2m:=s26.trans sm;exists ⟨x,e9,H1,mv,pt,lk,rfl,S2.same s2m,D,F,UF,λft2 fp2 R'' ps'' U'' pu'' Hn RR'' RN'' nfp2 sn2 gft2 Gf2=>?_⟩;obtain ⟨rfl,rfl⟩:=RR''.same RR;obtain ⟨rfl,rfl⟩:=RN''.same RN;clear RR'' RN'';have s6n:=sm.trans sn2;exists jK (s6n _ _ gul) (s6n _ _ gu) (aN (bc (by lia))) λd2 Hb sb nd2 gd2=>?_
  have Gd2:=catG s6n nd2 sb gd2;have s6b:=s6n.trans sb;exists ⟨_,_,rfl,.inl (bO.of (s6b _ _ gul)),?_⟩;rw[show ((ys.length:Nat):Int)=((c4 pu'' mv.length).length:Int) by lia];exists b6 λt4 Ho so go=>?_
  have s6o:=s6b.trans so;exists ⟨_,_,Lz BW Eo,(rK U'' pu'' mv.length,((c4 pu'' mv.length).length:Int)),(rK U'' pu'' mv.length,((c4 pu'' mv.length).length:Int)),by decide,⟨ft2,_,_,rfl,kD.of ((sb.trans so) _ _ gft2),(Gf2.same (sb.trans so)).kind,rfl⟩,⟨t4,_,_,rfl,kD.of go,(Gd2.same so).kind,rfl⟩,?_⟩;rw[decide_eq_true rfl];exists jK (s6o _ _ gul) (s6o _ _ gu) (aN (bc (by lia))) λd3 Hc sc nd3 gd3=>?_
  have Gd3:=catG s6o nd3 sc gd3;have s6c:=s6o.trans sc;exists ⟨x,d3,E,H1,H2,mv,pt,lk,rK U'' pu'' mv.length,Cw U'' pu'' mv.length,rfl,S2.same (s26.trans s6c),D,Gd3,hB,SW,λR9 ps9 h9=>Mf RN h9,hC,FT,λz9 Hp sp Sp=>?_⟩;have s6p:=s6c.trans sp;exists ⟨_,_,rfl,.inl (bO.of (s6p _ _ gul)),?_⟩;rw[show ((ys.length:Nat):Int)=((c4 pu'' mv.length).length:Int) by lia];exists ⟨z9,(c4 pu'' mv.length).length,Hc,_,_,_,rfl,Sp,Fs D hC hB,by rw[qe hC];lia,λxs hx=>by rw[qe hC];exact JX D.mw RR RB RN xs hx,λxs hx=>by rw[qe hC];exact JY D.lw RB RN xs hx,λHq sq=>?_⟩;have s6q:=s6p.trans sq;have s2q:=s26.trans s6q;obtain ⟨dx,xa,xb,xc,gx,_,_,_,_,_,Gxc⟩:=S2.same s2q;have gr9:=(s2.trans s2q) _ _ gr;exists ⟨x,Z.a_System,dx,_,_,rfl,gx,T.cl_System,T.na_look,sQ,?_⟩;exists ⟨_,_,BW,_,_,by decide,Gxc.kind,(Gl.same (s2.trans s2q)).kind,?_⟩;rw[decide_eq_true rfl];exact k _
end
theorem ln1 {P:List Value->Prop} (h:∀x0,P [x0]):∀us:List Value,us.length=1->P us
 | [x0],_=>h x0
theorem ln2 {P:List Value->Prop} (h:∀x0 x1,P [x0,x1]):∀us:List Value,us.length=2->P us
 | [x0,x1],_=>h x0 x1
theorem ln3 {P:List Value->Prop} (h:∀x0 x1 x2,P [x0,x1,x2]):∀us:List Value,us.length=3->P us
 | [x0,x1,x2],_=>h x0 x1 x2
theorem ln4 {P:List Value->Prop} (h:∀x0 x1 x2 x3,P [x0,x1,x2,x3]):∀us:List Value,us.length=4->P us
 | [x0,x1,x2,x3],_=>h x0 x1 x2 x3
theorem ln5 {P:List Value->Prop} (h:∀x0 x1 x2 x3 x4,P [x0,x1,x2,x3,x4]):∀us:List Value,us.length=5->P us
 | [x0,x1,x2,x3,x4],_=>h x0 x1 x2 x3 x4
local macro_rules | `(tactic| walk_at "b") => `(tactic| (intro _ _ _ _ _ _; first | (refine ln1 ?_; intros; rfl) | (refine ln2 ?_; intros; rfl) | (refine ln3 ?_; intros; rfl) | (refine ln4 ?_; intros; rfl) | (refine ln5 ?_; intros; rfl)))
theorem all_mk {l:W.OpenLaw} {K:W.Frag} 
 
  (X:K.In h) (G:h.Ns mainGlobals mg) (hfa:mg "law"=some (.ref fa))
 (aC:W.nsIn K mainGlobals "System"=some (some (.ref C)))
  (h0:Dh K "_law_bag" rW f0 e0)
  (h1:Dh K "_law_take" o8 f1 e1)
  (h2:Dh K "_law_sizes" jU f2 e2)
  (h3:Dh K "_law_line" pC f3 e3)
  (h4:Dh K "_law_low" rT f4 e4)
  (h5:Dh K "_law_sum" rR f5 e5)
  (h6:Dh K "_law_plus" ph f6 e6)
  (h7:Dh K "_law_prod" pe f7 e7)
  (h8:Dh K "_law_by" vd f8 e8)
  (h9:Dh K "_law_mixed" nD f9 e9)
  (h10:Dh K "_law_two_lines" iT f10 e10)
  (h11:Dh K "_law_number" lT f11 e11)
  (h12:Dh K "_law_row" rS f12 e12)
  (h13:Dh K "_law_move" pA f13 e13)
  (h14:Dh K "_law_parts" nC f14 e14)
  (h15:Dh K "_law_system" lS f15 e15)
  (h16:Dh K "want_list" oZ f16 e16)
  (h17:Dh K "is_whole" rO f17 e17)
  (h18:Dh K "common_divisor" iS f18 e18)
  (h19:Dh K "is_number" o6 f19 e19)
  (h20:Dh K "is_row" yd f20 e20)
  (h21:Dh K "copied_rows" lO f21 e21)
  (a22:W.findIn K (.ref C) "__init__"=some (some (.ref f22))) (i22:W.isFn K (.ref f22)=true) (l22:K.lookup f22=some ⟨oc22,od22,.func (W.fnOf "__init__" "System.__init__" (j5 dH) (iF dH) (aK dH) .none kV22 dc22 pm22 an22 cd22 ct22),sl22⟩) (c22:W.codeIn K cd22 "System.__init__"=true) (k22:W.keepIn K (.ref f22)=true)
  (h23:Dh K "_law_copied" lW f23 e23)
  (h24:Dh K "_law_made" pB f24 e24)
  (h25:Dh K "_law_quot" o9 f25 e25)
  (h26:Dh K "_law_less" pF f26 e26)
  (h27:Dh K "_law_minus" nE f27 e27)
  (h28:Dh K "_law_lean" pG f28 e28)
  (h29:Dh K "_law_dot" rV f29 e29)
  (h30:Dh K "_law_over" pz f30 e30)
  (h31:Dh K "_law_shown" nB f31 e31)
  (h32:Dh K "_law_free" pH f32 e32)
  (h33:Dh K "_law_unit" o7 f33 e33)
  (h34:Dh K "_law_unseen" lQ f34 e34)
  (h35:Dh K "tops_over" o5 f35 e35)
  (h36:Dh K "common_multiple" ig f36 e36)
  (h37:Dh K "common_bottom" jJ f37 e37)
  (h38:Dh K "first_with" nk f38 e38)
  (h39:Dh K "cleared" va f39 e39)
  (h40:Dh K "brought_up" nA f40 e40)
  (h41:Dh K "swept" Bt f41 e41)
  (h42:Dh K "lowest" yc f42 e42)
  (h43:Dh K "reduced" uW f43 e43)
  (h44:Dh K "row_dot" uV f44 e44)
  (h45:Dh K "grid_on" u0 f45 e45)
  (h46:Dh K "moved_rows" m9 f46 e46)
  (h47:Dh K "reach_grown" lG f47 e47)
  (h48:Dh K "reach_rows" m8 f48 e48)
  (h49:Dh K "grid_turned" lH f49 e49)
  (a50:W.findIn K (.ref C) "turned"=some (some (.ref f50))) (i50:W.isFn K (.ref f50)=true) (l50:K.lookup f50=some ⟨oc50,od50,.func (W.fnOf "turned" "System.turned" (j5 eH) (iF eH) (aK eH) .none kV50 dc50 pm50 an50 cd50 ct50),sl50⟩) (c50:W.codeIn K cd50 "System.turned"=true) (k50:W.keepIn K (.ref f50)=true)
  (h51:Dh K "unit_row" rN f51 e51)
  (h52:Dh K "leading_place" jI f52 e52)
  (h53:Dh K "leading" uY f53 e53)
  (h54:Dh K "minus" Bv f54 e54)
  (h55:Dh K "null_at" uX f55 e55)
  (h56:Dh K "free_places" lI f56 e56)
  (h57:Dh K "nulls" Bu f57 e57)
  (h58:Dh K "unseen_rows" lF f58 e58)
  (h59:Dh K "free_units" nh f59 e59)
  (h60:Dh K "seen_first" m7 f60 e60)
  (h61:Dh K "_law_is_number" iU f61 e61)
  (h62:Dh K "_law_is_row" lV f62 e62)
  (h63:Dh K "_law_is_grid" kg f63 e63)
  (h64:Dh K "_law_blocks" lX f64 e64)
  (h65:Dh K "unit_grid" o3 f65 e65)
  (h66:Dh K "inverse" uZ f66 e66)
  (h67:Dh K "grid_times" ng f67 e67)
  (h68:Dh K "in_basis" rQ f68 e68)
  (h69:Dh K "law" HS f69 e69)
 (ca0:W.nsIn K mainGlobals "NOUGHT"=some (some (.ref m0))) (cl0:K.lookup m0=some ⟨.type "tuple",mo0,.seq #[.int 0 mt0_0,.int 1 mt0_1] mn0,ms0⟩)
 (ca1:W.nsIn K mainGlobals "ONE"=some (some (.ref m1))) (cl1:K.lookup m1=some ⟨.type "tuple",mo1,.seq #[.int 1 mt1_0,.int 1 mt1_1] mn1,ms1⟩)
 (ci0:W.nsIn K mainGlobals "MOST_STATES"=some (some (.int 8 it0)))
 (ci1:W.nsIn K mainGlobals "MOST_PUTS"=some (some (.int 4 it1)))
 (ci2:W.nsIn K mainGlobals "MOST_LOOKS"=some (some (.int 4 it2)))
  (pg:W.plainGet K C Str.empty=true) (hd:W.hasDictIn K C=true) (po:W.plainOver K C=true) (sa:W.findIn K (.ref C) "__setattr__"=some (some (.builtin "object.__setattr__"))) (mk:W.makesIn K C=true) (kc:W.keepIn K (.ref C)=true)
  (n_move:W.findIn K (.ref C) "move"=some none)
  (n_states:W.findIn K (.ref C) "states"=some none)
  (n_put:W.findIn K (.ref C) "put"=some none)
  (n_ins:W.findIn K (.ref C) "ins"=some none)
  (n_look:W.findIn K (.ref C) "look"=some none)
  (n_outs:W.findIn K (.ref C) "outs"=some none)
  (z_abs:W.nsIn K mainGlobals "abs"=some none)
  (z_len:W.nsIn K mainGlobals "len"=some none)
  (z_min:W.nsIn K mainGlobals "min"=some none)
  (z_int:W.nsIn K mainGlobals "int"=some none)
  (z_range:W.nsIn K mainGlobals "range"=some none)
  (z_isinstance:W.nsIn K mainGlobals "isinstance"=some none)
  (z_list:W.nsIn K mainGlobals "list"=some none)
  (z_bool:W.nsIn K mainGlobals "bool"=some none)
  (z_tuple:W.nsIn K mainGlobals "tuple"=some none)
  (z_all:W.nsIn K mainGlobals "all"=some none)
  (z_enumerate:W.nsIn K mainGlobals "enumerate"=some none)
  (z_zip:W.nsIn K mainGlobals "zip"=some none)
  (z_sum:W.nsIn K mainGlobals "sum"=some none)
  : ∃fd:FuncData,(∀(s:Shared) (v:Value),BindsTo s fd ⟨[v],[]⟩ [("_law_script",v)])/\∀base:Heap,K.In base->base.Ns mainGlobals mg->cE l.prog w K mg base fw 11 fa fd ["_law_script"] (xR K):=by
 have e:=hfa.symm.trans (W.mg_of X G h69.a);cases e;obtain ⟨_,_,_,_,_,_,_,_,_,rfl,_,_⟩:=h69.F.ex;have F22:=Eu (st:=dH) l22 c22 k22;have F50:=Eu (st:=eH) l50 c50 k50
 have T:Txt K mg ⟨f0,_,f1,_,f2,_,f3,_,f4,_,f5,_,f6,_,f7,_,f8,_,f9,_,f10,_,f11,_,f12,_,f13,_,f14,_,f15,_,f16,_,f17,_,f18,_,f19,_,f20,_,f21,_,f22,_,f23,_,f24,_,f25,_,f26,_,f27,_,f28,_,f29,_,f30,_,f31,_,f32,_,f33,_,f34,_,f35,_,f36,_,f37,_,f38,_,f39,_,f40,_,f41,_,f42,_,f43,_,f44,_,f45,_,f46,_,f47,_,f48,_,f49,_,f50,_,f51,_,f52,_,f53,_,f54,_,f55,_,f56,_,f57,_,f58,_,f59,_,f60,_,f61,_,f62,_,f63,_,f64,_,f65,_,f66,_,f67,_,f68,_,fa,_,m0,m1,it0,it1,it2,C⟩:={
  pS:=h0.D X G
  bo:=h1.D X G
  mo:=h2.D X G
  iC:=h3.D X G
  dX:=h4.D X G
  gW:=h5.D X G
  nX:=h6.D X G
  fW:=h7.D X G
  jb:=h8.D X G
  jo:=h9.D X G
  iB:=h10.D X G
  kx:=h11.D X G
  jC:=h12.D X G
  nZ:=h13.D X G
  mC:=h14.D X G
  kv:=h15.D X G
  ir:=h16.D X G
  kO:=h17.D X G
  eI:=h18.D X G
  nV:=h19.D X G
  vA:=h20.D X G
  fQ:=h21.D X G
  fG:=F22.binds (ps:=["self","move","put","look"]) λ_ _ _ _ _ _=>by refine ln4 ?_;intros;rfl
  kX:=F22
  fR:=h23.D X G
  oa:=h24.D X G
  nW:=h25.D X G
  og:=h26.D X G
  jq:=h27.D X G
  jZ:=h28.D X G
  pR:=h29.D X G
  nY:=h30.D X G
  mB:=h31.D X G
  iE:=h32.D X G
  jY:=h33.D X G
  ku:=h34.D X G
  iu:=h35.D X G
  gO:=h36.D X G
  eZ:=h37.D X G
  mh:=h38.D X G
  sD:=h39.D X G
  mi:=h40.D X G
  yE:=h41.D X G
  mK:=h42.D X G
  i5:=h43.D X G
  r8:=h44.D X G
  ja:=h45.D X G
  md:=h46.D X G
  kq:=h47.D X G
  l9:=h48.D X G
  fP:=h49.D X G
  mL:=⟨a50,i50,k50⟩
  oC:=F50.binds (ps:=["self"]) λ_ _ _ _ _ _=>by refine ln1 ?_;intros;rfl
  oH:=F50
  jB:=h51.D X G
  i8:=h52.D X G
  ks:=h53.D X G
  yG:=h54.D X G
  sv:=h55.D X G
  iw:=h56.D X G
  yF:=h57.D X G
  ko:=h58.D X G
  me:=h59.D X G
  jk:=h60.D X G
  iD:=h61.D X G
  ky:=h62.D X G
  jP:=h63.D X G
  kz:=h64.D X G
  nU:=h65.D X G
  sC:=h66.D X G
  jm:=h67.D X G
  pQ:=h68.D X G
  LV:=h69.F
  abs:=W.mg_none_of X G z_abs
  len:=W.mg_none_of X G z_len
  min:=W.mg_none_of X G z_min
  int:=W.mg_none_of X G z_int
  range:=W.mg_none_of X G z_range
  isinstance:=W.mg_none_of X G z_isinstance
  list:=W.mg_none_of X G z_list
  bool:=W.mg_none_of X G z_bool
  tuple:=W.mg_none_of X G z_tuple
  all:=W.mg_none_of X G z_all
  enumerate:=W.mg_none_of X G z_enumerate
  zip:=W.mg_none_of X G z_zip
  sum:=W.mg_none_of X G z_sum
  mg_NOUGHT:=W.mg_of X G ca0
  sq_NOUGHT:=λH=>.inr ⟨_,_,_,cl0,rfl,rfl,ib rfl,.cons ⟨_,rfl⟩ (.cons ⟨_,rfl⟩ (.nil))⟩
  mg_ONE:=W.mg_of X G ca1
  sq_ONE:=λH=>.inr ⟨_,_,_,cl1,rfl,rfl,ib rfl,.cons ⟨_,rfl⟩ (.cons ⟨_,rfl⟩ (.nil))⟩
  mg_MOST_STATES:=W.mg_of X G ci0
  mg_MOST_PUTS:=W.mg_of X G ci1
  mg_MOST_LOOKS:=W.mg_of X G ci2
  mg_System:=W.mg_of X G aC
  cl_System:=⟨pg,hd,po,sa⟩
  na_move:=n_move
  na_states:=n_states
  na_put:=n_put
  na_ins:=n_ins
  na_look:=n_look
  na_outs:=n_outs
  mk_System:=⟨mk,a22,i22,kc⟩ }
 exact ⟨_,λs v=>.of_eq rfl,λbase _ _=>MM T⟩
theorem walk {l:W.OpenLaw} {K:Params->W.Frag} (hn:l.most=some 63) (hdf:d.params.defaults=[])
  (hY:∀(w:World) (h:Heap),YP w h->(K w.params).In h)
  (F:∀(w:World) (mg:Str->Option Value) (fa:Addr) (h:Heap),(K w.params).In h->h.Ns mainGlobals mg->mg d.name=some (.ref fa) →
   ∃fd:FuncData,(∀(s:Shared) (u:Value),BindsTo s fd ⟨[u],[]⟩ [("_law_script",u)])/\∀base:Heap,(K w.params).In base->base.Ns mainGlobals mg->cE l.prog w (K w.params) mg base fw 11 fa fd ["_law_script"] (xR (K w.params))) :
  W.WalkO q loose XP YP l.row.toRowW d [] (λf vs=>PySem.call f vs) :=
 L2.JJ (n:=63) (k:=11) (x:="_law_script") (CX:=λ_=>fw) (sp:=λw=>xR (K w.params)) hn (by decide) hdf ⟨rfl,by decide,by decide⟩ hY F (λ_ _ a ns hl _ hS=>⟨a,ns,rfl,hS,hl,λ_=>rfl⟩) λ_ _ _ _ _ z=>z
end Lw
namespace PySem.W.Fast
def tw8547451813392093095:=()
def tw7783324578897663859:=()
def tw18164510568830244656:=()
def tw11980471025427305218:=()
def tw17147693591682879772:=()
def tw7268269063566224196:=()
def tw12704940294974683537:=()
def tw16353367719271710027:=()
def tw12173277208713565958:=()
def tw6671867529411890689:=()
def tw1037749373196754991:=()
def tw10150884666777337156:=()
def tw14616285263892554481:=()
def tw16694324625989683401:=()
def tw10011805065008014541:=()
def tw10238399097182638931:=()
def tw4462102052828352187:=()
def tw5329559942133875230:=()
def tw2128887415735350700:=()
def tw10039307651450795942:=()
def tw15603428158984030773:=()
def tw11000646925670619003:=()
def tw9118110438842419236:=()
def tw2162243806296846760:=()
def tw15065811477215971592:=()
def tw4633289877865975201:=()
def tw14287780049258211346:=()
def tw13735898971782394238:=()
def tw14210302241692566699:=()
def tw14708373763641340327:=()
def tw1452354102023696456:=()
def tw14006647199958131463:=()
def tw4880392056349948730:=()
def tw15504042949678550041:=()
def tw16764086983395378910:=()
def tw13696437618574529675:=()
def tw9048137097455438428:=()
def tw14509887573602065015:=()
def tw7647143515363540493:=()
def tw12426857374878061573:=()
def tw2276259207755044039:=()
def tw18049227161721053884:=()
def tw3677113074082428812:=()
def tw6265838994272757524:=()
def tw9038977762649522039:=()
def tw2831421263963337991:=()
def tw18191680135598771675:=()
def tw18108514900669483742:=()
def tw17473724088210695762:=()
def tw4847873071250883401:=()
def tw8025766298550664618:=()
def tw10549170620514320331:=()
def tw988626628739175120:=()
def tw5019910255757098644:=()
def tw15228883489622056058:=()
def tw2131341243571233889:=()
def tw6779388737865198408:=()
def tw2232756124036804326:=()
def tw10521935574042153361:=()
def tw10811990029835272357:=()
def tw2117564807097812774:=()
def tw15975125147563348695:=()
def tw7577524382278855328:=()
def tw389090522954575070:=()
def tw14362724898251213972:=()
def tw1605719890526153401:=()
def tw4448400030901794023:=()
def tw15828797035175271289:=()
def tw6723259354739494800:=()
def tw15033303967822243746:=()
def tw4800920785434443022:=()
def tw16462592801001924643:=()
def tw10750732701398258171:=()
def tw8525556883067007080:=()
def tw9187174012081929037:=()
def tw3121164834549028711:=()
def tw17473661557527213851:=()
def tw1961906904080506901:=()
def tw332028274435957737:=()
def tw6873883707008744736:=()
def tw15413538437547204610:=()
def tw8960373331422397760:=()
def tw12325218329581776928:=()
def tw8723541484949518163:=()
def tw13525499086952630854:=()
def tw3624300269482318237:=()
def tw11423855431874280966:=()
def tw8476092620374667039:=()
def tw13985219333937726637:=()
def tw11996581166554016466:=()
def tw6451776853125414957:=()
def tw12884104178603836653:=()
def tw17662085902289084481:=()
def tw5397289693019376564:=()
def tw13162154463584286534:=()
def tw2343344749577974295:=()
def tw10254851086675592079:=()
def tw12082943016466058166:=()
def tw10349266243766498629:=()
def tw8239598603642244827:=()
def tw8054405678640219483:=()
def tw14620459410954091601:=()
def tw16121787405884462534:=()
def tw9230566422562379069:=()
def tw11822994561120953350:=()
def tw17696181000868407557:=()
def tw15548931290911373592:=()
def tw8530000198027130781:=()
def tw13947222362868219154:=()
def tw8566516710504345549:=()
def tw12903437756124659837:=()
def tw12394973858975153554:=()
def tw13452496921981165771:=()
def tw18049409913398620469:=()
def tw860954429424089372:=()
def tw8811310388864210982:=()
def tw6518992407660624686:=()
def tw414366152774813258:=()
def tw236370282934006761:=()
def tw2543738291128575691:=()
def tw1465484042545785131:=()
def tw1604773882181585898:=()
def tw11389423991067610426:=()
def tw5537637174049638861:=()
def tw4560697123071202762:=()
def tw3408989736821269170:=()
def tw14756908027145797642:=()
def tw6144559156180351587:=()
def tw12373995902084634770:=()
def tw8528011686579298997:=()
def tw9759666146503275959:=()
def tw4252648851028552179:=()
def tw4052229604164067635:=()
def tw15760179353673978193:=()
def tw15700567303299331090:=()
def tw13239146025269215352:=()
def tw10223288505306042704:=()
def tw3284552143641868841:=()
def tw1722370005387876227:=()
def tw17954903011159376304:=()
def tw16896607794044215692:=()
def tw4317043116712988183:=()
def tw10185558283837925005:=()
def tw6364242298228650283:=()
def tw11989014734278892628:=()
def tw6526364033426219559:=()
def tw15834691592813797584:=()
def tw12538160133448021571:=()
def tw13969905566178659960:=()
def tw8127409190388000654:=()
def tw17607592372940960993:=()
def tw18402844773650719183:=()
def tw6826298037452582077:=()
def tw11244527285250853617:=()
def tw13254690759035520199:=()
def tw5238973552319164714:=()
def tw17479836637040285110:=()
def tw202505818516897575:=()
def tw16477236296277157161:=()
def tw2821024188426358571:=()
def tw10355229613683356242:=()
def tw13602835105771587103:=()
def tw17470809419271198585:=()
def tw12920223429852933829:=()
def tw268756158469002556:=()
def tw18035114138950280813:=()
def tw12195955686739326043:=()
def tw1789275921485531850:=()
def tw3856358735021494073:=()
def tw14066816788811103645:=()
def tw16347544225469494360:=()
def tw4996865374968660273:=()
def tw12474372073943613753:=()
def tw14239763207979520921:=()
def tw15497622698291419617:=()
def tw16593312119822804748:=()
def tw15252290954642255714:=()
def tw572738321666357516:=()
def tw8543176153893347113:=()
def tw4960270531787397779:=()
def tw10318495116035913398:=()
def tw10227897672183535615:=()
def tw9793175107046572986:=()
def tw15696654567263487257:=()
def tw3184824864078338977:=()
def tw15382171565886017696:=()
def tw16122021617461583327:=()
def tw14636447010000157914:=()
def tw17230851471552721393:=()
def tw13804698404069463292:=()
def tw608475145817342096:=()
def tw552726702022214419:=()
def tw11308673685542895436:=()
def tw9506460240597945507:=()
def tw3378430309955014673:=()
def tw1747542167688780227:=()
def tw16260985633529061834:=()
def tw5931712350140591292:=()
def tw10148545794513081270:=()
def tw12416897090010426674:=()
def tw16937752436518914243:=()
def tw9755898626935071218:=()
def tw6088094534700281292:=()
def tw1456496316549663035:=()
def tw9396940291996057906:=()
def tw14709609621173052050:=()
def tw7238896622442986619:=()
def tw2944799143611718222:=()
def tw9680508715799443191:=()
def tw9876812916156287460:=()
def tw13020896152896243801:=()
def tw10892503802506798943:=()
def tw12230113058330640194:=()
def tw10765314183572331205:=()
def tw7880464341928026163:=()
def tw12758301485134306409:=()
def tw8170155148493973360:=()
def tw6287892228111140676:=()
def tw6159860823619793306:=()
def tw16322704905027327219:=()
def tw11170386791815507004:=()
def tw10396310173026584820:=()
def tw13194647895167278548:=()
def tw17955882832060290491:=()
def tw9937583518331884826:=()
def tw3709783506316429198:=()
def tw228181200264619694:=()
def tw18007350806189398124:=()
def tw3577439886577285937:=()
def tw1305795832373711263:=()
def tw3512693516464870835:=()
def tw2851090698051719932:=()
def tw12901433574299294827:=()
def tw9416697813784717885:=()
def tw1546060135358683282:=()
def tw2196335092120599861:=()
def tw7335029344828895497:=()
def tw1485210232014895784:=()
def tw4304095111491898682:=()
def tw9658882247815925143:=()
def tw6324259093927771326:=()
def tw1482642426902652690:=()
def tw1875186729941157073:=()
def tw5450530226933247373:=()
def tw10815016850792089157:=()
def tw11788736827239312641:=()
def tw11612618564670910181:=()
def tw4433103561297309566:=()
def tw1037847876890122810:=()
def tw15628639351104932160:=()
def tw14604253748419018501:=()
def tw7792440074810491532:=()
def tw9758225629369540602:=()
def tw17270014312165518741:=()
def tw6824009185006544738:=()
def tw3036696532161754373:=()
def tw5713116378718546585:=()
def tw16010807448203374216:=()
def tw14947678851042020292:=()
def tw14372690499782997898:=()
def tw11493066768523879495:=()
def tw18118193592644827075:=()
def tw9780581271826095687:=()
def tw12366291205148682415:=()
def tw16463329380473384335:=()
def tw9923093311733309602:=()
def tw16582508636727871898:=()
def tw2941426481828514011:=()
def tw1863361721913442026:=()
def tw17886671401927843540:=()
def tw17438687638135722441:=()
def tw278905819895504717:=()
def tw13075334820839962029:=()
def tw6540158386861577197:=()
def tw14575790160170574194:=()
def tw7624123789091209485:=()
def tw7036187291210956259:=()
def tw6164916424896935753:=()
def tw6948145863657472870:=()
def tw10020706795805132210:=()
def tw15161219176735454147:=()
def tw7432064140074590246:=()
def tw10444867873273843645:=()
def tw4335640209257829414:=()
def tw12662215952391016348:=()
def tw12055627411338250985:=()
def tw17937375312025528787:=()
def tw12266332897261788303:=()
def tw12403894086801925818:=()
def tw4136824681975798960:=()
def tw16136777679094901212:=()
def tw2868685423880934796:=()
def tw11867193864484574827:=()
def tw16953887397527423654:=()
def tw8999557057049980748:=()
def tw13866215349103944215:=()
def tw11430308783658594916:=()
def tw6908861141602333706:=()
def tw8078508694660974041:=()
def tw12414272422455366371:=()
def tw10804698960238796976:=()
def tw957631570451438672:=()
def tw12501897733888412101:=()
def tw14090240735685841653:=()
def tw4293088594377246950:=()
def tw10238656394890113026:=()
def tw14615078932647286154:=()
def tw17109227067008729279:=()
def tw17135459763614383210:=()
def tw3145827136317103228:=()
def tw3187532932540418183:=()
def tw14924790958186061452:=()
def tw4898242949987645727:=()
def tw11858318184229195361:=()
def tw13884449366796093446:=()
def tw14499907916469525753:=()
def tw11354182276983479891:=()
def tw14996980465316735692:=()
def tw14449599751348069267:=()
def tw3213560273807776159:=()
def tw13569465730092874682:=()
def tw2269619518962476659:=()
def tw10642924192835179547:=()
def tw11180838893093964296:=()
def tw1014206445345809389:=()
def tw4875201848650844324:=()
def tw3669994431799835988:=()
def tw5145183918353134378:=()
def tw13201240609148447344:=()
def tw8750618891872868609:=()
def tw17229565461916292265:=()
def tw14255718629324875276:=()
def tw17625280222217788839:=()
def tw2575981294005102615:=()
def tw4951577282229132634:=()
def tw4811211657651180442:=()
def tw4229857966022411767:=()
def tw4870354228891796946:=()
def tw12384493415467249251:=()
def tw4361212086935398779:=()
def tw15417397852740667258:=()
def tw11108284250450949196:=()
def tw5911634039521179562:=()
def tw10262762889978769506:=()
def tw2697256895738748216:=()
def tw13548902969171516170:=()
def tw6782119826660618161:=()
def tw2723517769720240163:=()
def tw10007044537815613742:=()
def tw4557805266000238338:=()
def tw16015639397342941298:=()
def tw14106727731787407339:=()
def tw16619514784495468839:=()
def tw4780901436621277098:=()
def tw6814327957421212303:=()
def tw11556101569661161619:=()
def tw3176182716984013113:=()
def tw10249273044801839907:=()
def tw14029176823889009010:=()
def tw11146983528045057687:=()
def tw1915912060806620155:=()
def tw4814558849304538686:=()
def tw2318864568583791386:=()
def tw14890353037396210506:=()
def tw5287908839051903679:=()
def tw11974422525067336023:=()
def tw15890456761188535103:=()
def tw11507438468401170638:=()
def tw3148153454313991681:=()
def tw18185628748210090574:=()
def tw13109816414673730535:=()
def tw5444517322340952676:=()
def tw1071758897121928072:=()
def tw17263343816393719765:=()
def tw11490873297122887937:=()
def tw2458135593511364255:=()
def tw1798583731038581232:=()
def tw1972993799405531878:=()
def tw2262963547746415054:=()
def tw7017870731502209185:=()
def tw4798874008869298934:=()
def tw18052219302970994599:=()
def tw7645252819743148801:=()
def tw1850936706608818614:=()
def tw13030471311171443302:=()
def tw16026361320818190197:=()
def tw15917459523500357836:=()
def tw1222604390261362159:=()
def tw12888346861060395454:=()
def tw4465167514550637197:=()
def tw7074414804364227553:=()
def tw4852789186681114566:=()
def tw7607378508461881307:=()
def tw6975958112413339551:=()
def tw13912447528956030427:=()
def tw13629962420792193601:=()
def tw9621912899101261130:=()
def tw14477367454864960531:=()
def tw8638429973191242503:=()
def tw14546946035862005952:=()
def tw13199367833391300018:=()
def tw7943858308886430878:=()
def tw14749632753980206659:=()
def tw6896035518938220823:=()
def tw12890391203993733672:=()
def tw18274872136088981666:=()
def tw6720793134840431797:=()
def tw10313713122864817841:=()
def tw7328417332644108706:=()
def tw13394253550711984459:=()
def tw12460239826261848089:=()
def tw11346703426218876446:=()
def tw15687769350323715090:=()
def tw18264963057838395797:=()
def tw3378729681345438596:=()
def tw9185205983227429632:=()
def tw9717934459365296473:=()
def tw11076324674385007802:=()
def tw14789385850979844979:=()
def tw13838677812081488196:=()
def tw16650502658528833752:=()
def tw6467265747479820551:=()
def tw17103093853897860656:=()
def tw10529344841995453543:=()
def tw12629284717181503142:=()
def tw265235716676944844:=()
def tw7527648887469480342:=()
def tw12422285601325293375:=()
def tw7606060256993898244:=()
def tw2215398911310495394:=()
def tw6283978320279025883:=()
def tw5415772193745010763:=()
def tw2980598244565373186:=()
def tw14045005595531813208:=()
def tw4780878455574846603:=()
def tw14050356246829223435:=()
def tw16703357603829354096:=()
def tw12373397402588726823:=()
def tw6308498967172697809:=()
def tw143911722903113399:=()
def tw13880707741075642565:=()
def tw4036976486953633915:=()
def tw17533218927793764977:=()
def tw11392477150168446322:=()
def tw14341787616835653624:=()
def tw17506871750534411983:=()
def tw18199463733083512216:=()
def tw775396397671075332:=()
def tw17781530083965034596:=()
def tw12866906267583896455:=()
def tw2611992920140007691:=()
def tw4192369155528390892:=()
def tw5442827153125977552:=()
def tw11394971235166967067:=()
def tw14470008651429498096:=()
def tw6747000600130616477:=()
def tw4542523219675871121:=()
def tw15156290414950559249:=()
def tw1158319450173728018:=()
def tw13283075568285703104:=()
theorem te8547451813392093095:True:=trivial
end PySem.W.Fast
open PySem PySem.W PyProof.Rows
set_option maxRecDepth 100000 in
set_option maxHeartbeats 0 in
theorem PySem.Challenge.cw_helmsum_k73_seen_first_holds : PySem.Challenge.rw_helmsum_k73_seen_first.Holds := by
 w_on;o_law;k_head;(case hw=>w_witness2)
 k_fill
 refine Lw.walk (l:=PySem.Challenge.rw_helmsum_k73_seen_first) rfl rfl (λw h Y=>PySem.W.kIn_of Y) ?F
 case F =>
  intro w mg fa h KX G hmg;refine' Lw.all_mk KX G hmg ?aC ?_ ?_ ?_ ?_ ?_ ?_ ?_ ?_ ?_ ?_ ?_ ?_ ?_ ?_ ?_ ?_ ?_ ?_ ?_ ?_ ?_ ?_ ?a22 ?i22 ?l22 ?c22 ?k22 ?_ ?_ ?_ ?_ ?_ ?_ ?_ ?_ ?_ ?_ ?_ ?_ ?_ ?_ ?_ ?_ ?_ ?_ ?_ ?_ ?_ ?_ ?_ ?_ ?_ ?_ ?_ ?a50 ?i50 ?l50 ?c50 ?k50 ?_ ?_ ?_ ?_ ?_ ?_ ?_ ?_ ?_ ?_ ?_ ?_ ?_ ?_ ?_ ?_ ?_ ?_ ?_ ?ca0 ?cl0 ?ca1 ?cl1 ?ci0 ?ci1 ?ci2 ?pg ?hd ?po ?sa ?mk ?kc ?n_move ?n_states ?n_put ?n_ins ?n_look ?n_outs ?z_abs ?z_len ?z_min ?z_int ?z_range ?z_isinstance ?z_list ?z_bool ?z_tuple ?z_all ?z_enumerate ?z_zip ?z_sum
  all_goals try refine' OI ?_ ?_ ?_ ?_
  all_goals try k_is