import PyProof.Rows.All
import Wide.All
import OpenK.AllK
import Wide.FinOn
import Lean
import PyProof.EqAt
import PyProof.EqKinds
import PyProof.TupleCall
import PyProof.NeKinds
import PySem.Challenge.RW_helmsum_k65_whole_least_is_a_square
set_option Elab.async false
set_option linter.all false
set_option maxRecDepth 100000
abbrev ND9:=@List.Nodup PySem.Str
abbrev aa:=@List.getD_eq_getElem?_getD
abbrev af:=@List.getElem?_eq_getElem
abbrev ai:=@Nat.le_trans
abbrev ak:=@List.length_map
abbrev ar:=@List.mem_of_getElem?
abbrev au:=@Nat.pow_le_pow_right
abbrev av:=@Nat.le_refl
abbrev ax:=@List.length_append
abbrev ay:=@List.mem_map
abbrev az:=@List.mem_append
abbrev aA:=@List.mem_cons
abbrev aB:=@List.getElem?_map
abbrev aD:=@List.take_of_length_le
abbrev aE:=@Nat.pow_add
abbrev aF:=@Nat.mul_le_mul
abbrev aG:=@Nat.mul_le_mul_right
abbrev aK:=@List.getElem_mem
abbrev aL:=@List.length_replicate
abbrev aM:=@Nat.mul_le_mul_left
abbrev aP:=@List.not_mem_nil
abbrev aR:=@Rat.intCast_mul
abbrev aT:=@List.size_toArray
abbrev aV:=@List.getElem?_eq_some_iff
abbrev aW:=@List.getElem?_eq_none
abbrev aY:=@Bool.false_ne_true
abbrev a7:=@Rat.intCast_natCast
abbrev ba:=@List.mem_cons_of_mem
abbrev bc:=@Nat.lt_of_lt_of_le
abbrev be:=@Nat.lt_of_le_of_lt
abbrev bf:=@Nat.le_of_lt
abbrev bg:=@List.length_zipWith
abbrev bx:=@List.getElem?_zipWith
abbrev bB:=@PySem.boot_len
abbrev bE:=@List.mem_append_right
abbrev bF:=@List.length_cons
abbrev bJ:=@Nat.zero_le
abbrev bM:=@List.getElem_of_mem
abbrev bN:=@Nat.mul_pos
abbrev bP:=@Int.fdiv_eq_ediv_of_nonneg
abbrev bS:=@List.mem_of_mem_take
abbrev bV:=@List.getElem?_append_right
abbrev bX:=@List.length_take
abbrev bY:=@Option.some.inj
abbrev bZ:=@List.mem_or_eq_of_mem_set
abbrev cm:=@List.length_range
abbrev cn:=@Nat.one_le_two_pow
abbrev cp:=@List.mem_singleton
abbrev cu:=@List.mem_cons_self
abbrev cy:=@Int.eq_ofNat_of_zero_le
abbrev cz:=@List.getElem?_append_left
abbrev cC:=@Nat.ne_of_lt
abbrev cD:=@List.append_assoc
abbrev cF:=@Int.natAbs_natCast
abbrev cH:=@Nat.mul_comm
abbrev cM:=@List.nil_append
abbrev cN:=@Nat.mul_assoc
abbrev cO:=@List.getElem?_range
abbrev cS:=@PySem.F.plainAttrs_list
abbrev cT:=@Nat.le_mul_of_pos_right
abbrev cU:=@Nat.pow_lt_pow_right
abbrev cW:=@PySem.W.kia_one
abbrev cX:=@List.map_append
abbrev dc:=@List.nodup_append
abbrev de:=@List.length_singleton
abbrev dg:=@PySem.F.type_list_append
abbrev dh:=@PySem.F.slot_list_append
abbrev di:=@Int.natAbs_mul
abbrev dj:=@Rat.intCast_inj
abbrev dk:=@List.mem_replicate
abbrev dn:=@Nat.succ_le_succ
abbrev dq:=@Bool.and_eq_true
abbrev dJ:=@List.nodup_cons
abbrev dM:=@List.length_set
abbrev dO:=@List.drop_eq_getElem_cons
abbrev dQ:=@List.mem_flatten
abbrev dR:=@List.cons_append
abbrev dS:=@Int.gcd_dvd_left
abbrev dY:=@Nat.lt_irrefl
abbrev dZ:=@List.map_cons
abbrev d5:=@List.mem_append_left
abbrev eo:=@List.flatten_cons
abbrev eB:=@Int.gcd_dvd_right
abbrev eJ:=@List.replicate_succ
abbrev eO:=@Rat.mul_comm
abbrev eU:=@Rat.div_def
abbrev ff:=@Int.emod_lt_of_pos
abbrev fv:=@Int.natAbs_dvd_natAbs
abbrev fG:=@Nat.succ_mul
abbrev fH:=@List.getElem_zipWith
abbrev gh:=@Nat.lt_succ_self
abbrev gi:=@List.getElem?_replicate
abbrev gv:=@List.ext_getElem
abbrev gE:=@Nat.mul_add
abbrev gI:=@Int.mul_pos
abbrev gM:=@Rat.mul_zero
abbrev gN:=@Nat.lt_or_ge
abbrev gO:=@Nat.le_mul_of_pos_left
abbrev gP:=@List.zipWith_cons_cons
abbrev gQ:=@Int.gcd_comm
abbrev gR:=@Bool.false_eq_true
abbrev ib:=@Rat.intCast_neg
abbrev ic:=@Int.emod_nonneg
abbrev iO:=@List.ext_getElem?
abbrev jg:=@PySem.IsL.update
abbrev jh:=@Nat.pow_succ
abbrev ji:=@List.lookup_cons
abbrev jk:=@Int.mul_comm
abbrev jo:=@PySem.F.plain_extend_loop
abbrev jq:=@PySem.mem_of_lookup
abbrev jx:=@Nat.le_of_dvd
abbrev jy:=@List.getElem?_take_of_lt
abbrev jz:=@Int.mul_assoc
abbrev jJ:=@Rat.natCast_mul
abbrev jK:=@Bool.eq_iff_iff
abbrev j3:=@List.map_id
abbrev j4:=@Int.dvd_mul_of_dvd_left
abbrev kr:=@Nat.min_self
abbrev ks:=@Nat.dvd_refl
abbrev kv:=@List.nodup_nil
abbrev lC:=@PySem.F.slot_zip_next
abbrev lD:=@List.getElem_map
abbrev lE:=@List.all_eq_true
abbrev mK:=@Nat.one_mul
abbrev mL:=@Nat.add_mul
abbrev mM:=@Rat.mul_eq_zero
abbrev mN:=@Rat.intCast_pos
abbrev mO:=@List.map_const'
abbrev mP:=@List.length_zip
abbrev mQ:=@List.append_nil
abbrev oo:=@List.flatten_append
abbrev o5:=@Rat.div_mul_cancel
abbrev o6:=@Nat.eq_zero_or_pos
abbrev rh:=@Nat.lt_trichotomy
abbrev rj:=@List.eq_of_mem_replicate
abbrev uI:=@Rat.intCast_eq_zero_iff
abbrev uJ:=@Nat.dvd_mul_left
abbrev uK:=@Int.natCast_dvd_natCast
abbrev va:=@Rat.add_zero
abbrev vb:=@PySem.W.cellsFrom_some
abbrev vd:=@List.map_map
abbrev xl:=@Rat.intCast_add
abbrev xn:=@Bool.beq_eq_decide_eq
abbrev yJ:=@Nat.pow_pos
abbrev yK:=@Nat.le_succ
abbrev yL:=@List.forIn_nil
abbrev yM:=@Int.natAbs_neg
abbrev zX:=@PySem.W.plainGet_of
abbrev zY:=@List.filterMap_cons
abbrev Bs:=@Nat.dvd_trans
abbrev BB:=@PySem.W.callWith_K
abbrev BC:=@List.append_of_mem
abbrev D6:=@Rat.zero_mul
abbrev D7:=@Nat.ne_of_gt
abbrev D8:=@Nat.mul_zero
abbrev D9:=@Nat.dvd_mul_right
abbrev Ea:=@Nat.add_comm
abbrev Ec:=@Int.zero_add
abbrev Ed:=@Int.dvd_refl
abbrev Fb:=@Option.getD_some
abbrev GX:=@Nat.pow_mul
abbrev GY:=@Int.dvd_gcd
abbrev Ht:=@Nat.not_lt_zero
abbrev Hu:=@Nat.min_eq_left
abbrev Hv:=@List.of_mem_zip
abbrev Hw:=@List.forIn_cons
abbrev HU:=@Int.gcd_pos_of_ne_zero_right
abbrev J7:=@Rat.mul_nonneg
abbrev J8:=@List.mem_range
abbrev J9:=@Int.eq_of_mul_eq_mul_right
abbrev Lu:=@PySem.F.entry_extend_loop
abbrev Lv:=@List.getElem?_zip_eq_some
abbrev Lx:=@Int.natAbs_ediv_of_nonneg
abbrev LC:=@Option.isSome_iff_exists
abbrev LD:=@List.sum_cons
abbrev MF:=@PySem.F.args_zip_next_1
abbrev MG:=@Nat.add_sub_cancel_left
abbrev LR9:=List (List Rat)
abbrev FG9:=PySem.W.Frag
namespace L2
open PySem PySem.Spec PyProof.Rows
abbrev Key:=Sum Int Str
def JQ:Key->Value->Bool
 | .inl k,v=>Value.isInt k v
 | .inr x,v=>Value.isStrOf x v
def M6 (w:World):Key->Int
 | .inl k=>hashInt k
 | .inr x=>hashStr w x
theorem eh:∀{k:Key} {v:Value},JQ k v=true->(∃i t,k=Sum.inl i/\v=Value.int i t)\/(∃x t,k=Sum.inr x/\v=Value.str x t)
 | .inl i,v,h=>by
  obtain ⟨t,e⟩:=Value.isInt_shape (k:=i) (v:=v) h;exact .inl ⟨i,t,rfl,e⟩
 | .inr x,v,h=>by
  obtain ⟨t,e⟩:=Value.isStrOf_shape (x:=x) (v:=v) h;exact .inr ⟨x,t,rfl,e⟩
theorem K6 (a b:Int):decide ((Sum.inl a:Key)=Sum.inl b)=(a == b):=by
 by_cases e:a=b
 ·subst e;simp
 ·have h:¬(Sum.inl a:Key)=Sum.inl b:=λq=>e (Sum.inl.inj q)
  rw[decide_eq_false h];exact (beq_eq_false_iff_ne.mpr e).symm
theorem K3 (a b:Str):decide ((Sum.inr a:Key)=Sum.inr b)=decide (a=b):=by
 by_cases e:a=b
 ·subst e;simp
 ·have h:¬(Sum.inr a:Key)=Sum.inr b:=λq=>e (Sum.inr.inj q)
  rw[decide_eq_false h,decide_eq_false e]
theorem K5 (a:Int) (b:Str):decide ((Sum.inl a:Key)=Sum.inr b)=false:=decide_eq_false (λq=>nomatch q)
theorem K4 (a:Str) (b:Int):decide ((Sum.inr a:Key)=Sum.inl b)=false:=decide_eq_false (λq=>nomatch q)
def Du (prog:Program) (w:World):PySem.KeyKind prog w Key where
 is:=JQ
 hash:=M6 w
 inj:=λv a b ha hb=>by
  rcases eh ha with ⟨i,t,rfl,rfl⟩ | ⟨x,t,rfl,rfl⟩
  ·rcases eh hb with ⟨j,u,rfl,e⟩ | ⟨y,u,rfl,e⟩
   ·injection e with e1 _;rw[e1]
   ·exact nomatch e
  ·rcases eh hb with ⟨j,u,rfl,e⟩ | ⟨y,u,rfl,e⟩
   ·exact nomatch e
   ·injection e with e1 _;rw[e1]
 byValue:=λk v h=>by
  rcases eh h with ⟨i,t,rfl,rfl⟩ | ⟨x,t,rfl,rfl⟩ <;> rfl
 pyHash:=λhv h=>by
  rcases eh hv with ⟨i,t,rfl,rfl⟩ | ⟨x,t,rfl,rfl⟩
  ·exact wpAny_pyHash_int h
  ·exact wpAny_pyHash_str h
 eqBool:=λhu hv h=>by
  rcases eh hu with ⟨i,t,rfl,rfl⟩ | ⟨x,t,rfl,rfl⟩
  ·rcases eh hv with ⟨j,u,rfl,rfl⟩ | ⟨y,u,rfl,rfl⟩
   ·rw[K6] at h;exact wpAny_eqBool_int h
   ·rw[K5] at h;exact SeqAt.EqAt.int_str i t y u _ _ _ _ h
  ·rcases eh hv with ⟨j,u,rfl,rfl⟩ | ⟨y,u,rfl,rfl⟩
   ·rw[K4] at h;exact SeqAt.EqAt.str_int x t j u _ _ _ _ h
   ·rw[K3] at h;exact wpAny_eqBool_str h
 «strs»:=λk x t v h=>by
  rcases eh h with ⟨i,u,rfl,e⟩ | ⟨y,u,rfl,e⟩
  ·exact nomatch e
  ·injection e with e1 _
   subst e1;cases v <;> rfl
inductive V where
  | non | bl (b : Bool) | int (i : Int) | str (x : Str) | byt (b : Array UInt8) | flt (b : UInt64) | ref (a : Addr) | ty (n : String)
  deriving DecidableEq

def RelV:V->Value->Prop
 | .non,u=>u=Value.none
 | .bl b,u=>u=Value.bool b
 | .int i,u=>∃t,u=Value.int i t
 | .str x,u=>∃t,u=Value.str x t
 | .byt b,u=>∃t,u=Value.bytes b t
 | .flt b,u=>∃t,u=Value.float b t
 | .ref a,u=>u=Value.ref a
 | .ty n,u=>u=Value.type n
abbrev cI:List V->List Value->Prop:=Paired RelV
theorem cI.length (r:cI xs us):xs.length=us.length:=Paired.length r
theorem cI.get:∀{xs:List V} {us:List Value} {i:Nat} {x:V},cI xs us->xs[i]?=some x->∃u,us[i]?=some u/\RelV x u
 | _,_,_,_,.nil,e=>by simp at e
 | _,_,0,_,.cons r _,e=>by simp at e;subst e;exact ⟨_,rfl,r⟩
 | _,_,i+1,x,.cons _ t,e=>by
  obtain ⟨u,h1,h2⟩:=cI.get (i:=i) (x:=x) t (by simpa using e);exact ⟨u,by simpa using h1,h2⟩
theorem cI.set {x:V} {u:Value} (r:RelV x u):∀{xs:List V} {us:List Value} (i:Nat),cI xs us->cI (xs.set i x) (us.set i u)
 | _,_,_,.nil=>.nil
 | _,_,0,.cons _ t=>.cons r t
 | _,_,i+1,.cons q t=>.cons q (cI.set r i t)
theorem cI.append:∀{xs ys:List V} {us ws:List Value},cI xs us->cI ys ws->cI (xs++ys) (us++ws)
 | _,_,_,_,.nil,s=>s
 | _,_,_,_,.cons r t,s=>.cons r (cI.append t s)
theorem cI.take:∀{xs:List V} {us:List Value} (n:Nat),cI xs us->cI (xs.take n) (us.take n)
 | _,_,0,_=>.nil
 | _,_,_+1,.nil=>.nil
 | _,_,n+1,.cons r t=>.cons r (cI.take n t)
theorem cI.drop:∀{xs:List V} {us:List Value} (n:Nat),cI xs us->cI (xs.drop n) (us.drop n)
 | _,_,0,r=>r
 | _,_,_+1,.nil=>.nil
 | _,_,n+1,.cons _ t=>cI.drop n t
def xH:Option V->Option Value->Prop
 | some v,some u=>RelV v u
 | none,none=>True
 | _,_=>False
def KV {κ:Type}:List (κ×V)->List (κ×Value)->Prop:=Paired λ(p:κ×V) (q:κ×Value)=>p.1=q.1/\RelV p.2 q.2
def kV:Key->V
 | .inl i=>.int i
 | .inr x=>.str x
inductive HO where
 | lst (xs:List V)
 | tup (xs:List V)
 | dK (kvs:List (Key×V)) | dT (kvs:List (List Key×V))
 | set (S:Int->Bool) (n:Nat)
 | ins (C dx:Addr) (fs:List (Str×V))
 | own (x:Addr)
 | xd (fs:List (Str×V))
 | met (f x:Addr)
 | rng (lo hi:Int)
 | frz (o:Obj) (u:HO)
 | tbl (ps:Array Value)
 | ext (φ:Heap->Prop)
abbrev Hp:=Addr->Option HO
def upd (H:Hp) (a:Addr) (o:HO):Hp:=λb=>if b=a then some o else H b
theorem aJ:upd H a o a=some o:=by unfold upd;rw[if_pos rfl]
theorem br (h:b≠a):upd H a o b=H b:=by unfold upd;rw[if_neg h]
theorem eE {H:Hp} (h:H a=some o) (h':H b=none):a≠b:=by
 intro e;subst e;rw[h] at h';cases h'
section
variable (P:Program) (w:World)
def ia (H:Hp) (h:Heap) (a:Addr):HO->Prop
 | .lst xs=>xs.length<=sizeLine/\∃(its:List Value) (n:Nat),cI xs its/\h.get? a=some { cls:=.type "list",data:=.seq its.toArray n }
 | .tup xs=>xs.length<=sizeLine/\∃its:List Value,cI xs its/\IsTup h a its.toArray
 | .dK kvs=>kvs.length<=sizeLine/\(a == sysModules)=false/\∃vs,KV kvs vs/\h.DictOf (Du P w) a vs
 | .dT kvs=>kvs.length<=sizeLine/\(a == sysModules)=false/\∃xs:List (List Key×Addr×Value),
   Paired (λ(p:List Key×V) (q:List Key×Addr×Value)=>p.1=q.1/\H q.2.1=some (.tup (p.1.map kV))/\RelV p.2 q.2.2) kvs xs /\
   ∃o es ep,h.get? a=some o/\o.ExactDict/\o.data=.dict es ep/\es.toList=xs.map (entryOfKey (tupleKind (Du P w)))/\(xs.map (·.1)).Nodup
 | .set S n=>h.SetOf (intKind P w) a S n
 | .ins C dx fs=>H dx=some (.own a)/\fs.length<=1000/\dx≠a/\h.get? a=some (PySem.W.instObj C dx) /\
   ∃mA,h.Ns1 dx mA/\(∀f,xH (fs.lookup f) (mA f))/\PySem.Within mA (fs.map (·.1))
 | .own _=>∃o,h.get? a=some o
 | .xd fs=>∃mA,h.Ns1 a mA/\∀f,xH (fs.lookup f) (mA f)
 | .rng lo hi=>∃t u v,h.get? a=some { cls:=.type "range",data:=.fields #[.int lo t,.int hi u,.int 1 v] }
 | .frz o u=>h.get? a=some o/\ia H h a u
 | .tbl ps=>h.get? a=some { cls:=.none,data:=.fields ps }
 | .met f x=>h.get? a=some (PySem.W.methodObj (.ref f) (.ref x))
 | .ext φ=>φ h/\(∃o,h.get? a=some o)/\∀h1 h2:Heap,φ h1->(∀o,h1.get? a=some o->h2.get? a=some o)->φ h2
def uZ (H:Hp) (h:Heap):Prop:=∀a o,H a=some o->ia P w H h a o
end
section
variable {P:Program} {w:World} {H H':Hp} {h h':Heap} {a:Addr} {o:HO}
theorem ia.lt (x:ia P w H h a o):a < h.objs.size:=by
 cases o with
 | lst xs=>obtain ⟨_,_,_,_,e⟩:=x;exact Heap.lt_size e
 | tup xs=>obtain ⟨_,_,_,p⟩:=x;exact p.lt
 | dK kvs=>obtain ⟨_,_,_,_,o,_,_,e,_⟩:=x;exact Heap.lt_size e
 | dT kvs=>obtain ⟨_,_,_,_,o,_,_,e,_⟩:=x;exact Heap.lt_size e
 | set S n=>obtain ⟨o,_,_,_,e,_⟩:=x;exact Heap.lt_size e
 | ins C dx fs=>obtain ⟨_,_,_,e,_⟩:=x;exact Heap.lt_size e
 | own y=>obtain ⟨_,e⟩:=x;exact Heap.lt_size e
 | xd fs=>obtain ⟨_,⟨_,_,_,e,_⟩,_⟩:=x;exact Heap.lt_size e
 | rng lo hi=>obtain ⟨_,_,_,e⟩:=x;exact Heap.lt_size e
 | frz ob u=>obtain ⟨e,_⟩:=x;exact Heap.lt_size e
 | tbl ps=>exact Heap.lt_size (show h.get? a=some _ from x)
 | met f y=>exact Heap.lt_size (show h.get? a=some _ from x)
 | ext φ=>obtain ⟨_,⟨_,e⟩,_⟩:=x;exact Heap.lt_size e
theorem Paired.mapP {α β:Type} {F G:α->β->Prop}:∀{l₁:List α} {l₂:List β},Paired F l₁ l₂->(∀a b,F a b->G a b)->Paired G l₁ l₂
 | _,_,.nil,_=>.nil
 | _,_,.cons r t,f=>.cons (f _ _ r) (Paired.mapP t f)
theorem Paired.imp' {F G:α->β->Prop} (f:∀a b,F a b->G a b) {l₁:List α} {l₂:List β} (r:Paired F l₁ l₂):Paired G l₁ l₂:=Paired.mapP r f
theorem ia.stay (x:ia P w H h a o) (k:∀b u,(b=a\/H b=some (.own a))->h.get? b=some u->h'.get? b=some u)
  (ho:∀b,H b=some (.own a)->H' b=some (.own a)) (ht:∀b xs,H b=some (.tup xs)->H' b=some (.tup xs)):ia P w H' h' a o:=by
 induction o with
 | lst xs=>obtain ⟨z,its,n,r,e⟩:=x;exact ⟨z,its,n,r,k _ _ (.inl rfl) e⟩
 | tup xs=>obtain ⟨z,its,r,ob,e,c⟩:=x;exact ⟨z,its,r,ob,k _ _ (.inl rfl) e,c⟩
 | dK kvs=>obtain ⟨z,y,vs,r,ob,es,ep,e,c⟩:=x;exact ⟨z,y,vs,r,ob,es,ep,k _ _ (.inl rfl) e,c⟩
 | dT kvs =>
  obtain ⟨z,y,xs,r,ob,es,ep,e,c⟩:=x;exact ⟨z,y,xs,Paired.mapP r λp q z=>⟨z.1,ht _ _ z.2.1,z.2.2⟩,ob,es,ep,k _ _ (.inl rfl) e,c⟩
 | set S n=>obtain ⟨ob,es,ep,t,e,c⟩:=x;exact ⟨ob,es,ep,t,k _ _ (.inl rfl) e,c⟩
 | ins C dx fs =>
  obtain ⟨d,z,ne,e,mA,⟨od,es,ep,e2,c⟩,r⟩:=x;exact ⟨ho _ d,z,ne,k _ _ (.inl rfl) e,mA,⟨od,es,ep,k _ _ (.inr d) e2,c⟩,r⟩
 | own y=>obtain ⟨ob,e⟩:=x;exact ⟨ob,k _ _ (.inl rfl) e⟩
 | xd fs=>obtain ⟨mA,⟨od,es,ep,e,c⟩,r⟩:=x;exact ⟨mA,⟨od,es,ep,k _ _ (.inl rfl) e,c⟩,r⟩
 | rng lo hi=>obtain ⟨t,u,v,e⟩:=x;exact ⟨t,u,v,k _ _ (.inl rfl) e⟩
 | frz ob u ih=>obtain ⟨e,q⟩:=x;exact ⟨k _ _ (.inl rfl) e,ih q⟩
 | tbl ps =>
  have e:h.get? a=some { cls:=.none,data:=.fields ps }:=x;show h'.get? a=some { cls:=.none,data:=.fields ps }
  exact k a _ (.inl rfl) e
 | met f y =>
  have e:h.get? a=some (PySem.W.methodObj (.ref f) (.ref y)):=x;show h'.get? a=some (PySem.W.methodObj (.ref f) (.ref y))
  exact k a _ (.inl rfl) e
 | ext φ=>obtain ⟨p,⟨o,e⟩,st⟩:=x;exact ⟨st _ _ p λo q=>k _ _ (.inl rfl) q,⟨o,k _ _ (.inl rfl) e⟩,st⟩
theorem uZ.lt (x:uZ P w H h) (e:H a=some o):a < h.objs.size:=(x a o e).lt
theorem uZ.fresh (x:uZ P w H h) (e:h.objs.size<=a):H a=none:=by
 cases q:H a with
 | none=>rfl
 | some u=>exact absurd (bc (x.lt q) e) (dY _)
theorem uZ.kept (x:uZ P w H h) (k:∀b u,h.get? b=some u->h'.get? b=some u):uZ P w H h':=λa o e =>
 (x a o e).stay (λb u _ q=>k b u q) (λ_ q=>q) λ_ _ q=>q
theorem uZ.laid (x:uZ P w H h) (k:∀b u,h.get? b=some u->h'.get? b=some u) (hp:h.objs.size<=a) (new:ia P w (upd H a o) h' a o):uZ P w (upd H a o) h':=λb u e=>by
 have hn:=x.fresh hp;by_cases hb:b=a
 ·subst hb;rw[aJ] at e;cases e;exact new
 ·rw[br hb] at e;exact (x b u e).stay (λc v _ q=>k c v q) (λc q=>by rw[br (eE q hn)];exact q) λc xs q=>by rw[br (eE q hn)];exact q
end
def Rd (H:Hp) (a:Addr) (u:HO):Prop:=H a=some u\/∃o,H a=some (.frz o u)
theorem Rd.ok (r:Rd H a u) (x:uZ P w H h):ia P w H h a u:=by
 rcases r with r | ⟨o,r⟩
 ·exact x a u r
 ·obtain ⟨_,q⟩:=x a _ r;exact q
def MO:Option HO->Prop
 | some (.lst _)=>True
 | some (.dK _)=>True
 | some (.dT _)=>True
 | some (.set _ _)=>True
 | some (.ins _ _ _)=>True
 | some (.ext _)=>True
 | _=>False
section
variable {P:Program} {w:World} {H:Hp} {h h':Heap} {x e:Addr} {o':HO}
theorem uZ.write (ok:uZ P w H h) (mu:MO (H x)) (he:e=x\/H e=some (.own x)) (k:∀b u,b≠e->h.get? b=some u->h'.get? b=some u) (heo:∃u,h'.get? e=some u)
  (new:ia P w (upd H x o') h' x o'):uZ P w (upd H x o') h':=λb u q=>by
 have nown:∀c y,H c=some (.own y)->c≠x:=λc y r z=>by subst z;rw[r] at mu;exact mu
 have ntup:∀c xs,H c=some (.tup xs)->c≠x:=λc xs r z=>by subst z;rw[r] at mu;exact mu
 by_cases hb:b=x
 ·subst hb;rw[aJ] at q;cases q;exact new
 ·rw[br hb] at q;by_cases hbe:b=e
  ·have q':H b=some (.own x):=by
    rcases he with z | z
    ·exact absurd (hbe.trans z) hb
    ·rw[hbe];exact z
   rw[q] at q';cases q';obtain ⟨v,hv⟩:=heo;exact ⟨v,by rw[hbe];exact hv⟩
  ·refine (ok b u q).stay (λc v hc r=>k c v ?_ r) (λc r=>by rw[br (nown c b r)];exact r) λc xs r=>by rw[br (ntup c xs r)];exact r
   rcases hc with rfl | hc
   ·exact hbe
   ·rintro rfl;rcases he with z | z
    ·exact nown c b hc z
    ·rw[hc] at z;cases z;exact hb rfl
end
structure Un (fs ex:List Addr) (H H':Hp) (h h':Heap):Prop where
 keep:∀b o,h.get? b=some o->H b=none->b∉fs->b∉ex->h'.get? b=some o
 slot:∀b o,h.get? b=some o->H b=none->b∈fs->b∉ex->∃sl,h'.get? b=some { o with slots:=sl }
 free:∀b o,h.get? b=some o->H b=none->b∉ex->H' b=none
 there:∀b o,h.get? b=some o->b∉ex->∃o',h'.get? b=some o'
 tups:∀b xs,H b=some (.tup xs)->H' b=some (.tup xs)
 frzs:∀b o u,H b=some (.frz o u)->H' b=some (.frz o u)
 tbls:∀b ps,H b=some (.tbl ps)->∃more,H' b=some (.tbl (ps++more))
section
variable {fs fs' ex ex':List Addr} {H H1 H2:Hp} {h h1 h2 h':Heap} {a x e:Addr} {o:HO}
theorem Un.any (u:Un fs ex H H1 h h1) (q:h.get? b=some ob) (n:H b=none) (hx:b∉ex):∃sl,h1.get? b=some { ob with slots:=sl }:=by
 by_cases hb:b∈fs
 ·exact u.slot b ob q n hb hx
 ·exact ⟨ob.slots,u.keep b ob q n hb hx⟩
theorem Un.kept (k:∀b u,h.get? b=some u->h'.get? b=some u):Un fs ex H H h h' :=
 ⟨λb ob q _ _ _=>k b ob q,λb ob q _ _ _=>⟨ob.slots,k b ob q⟩,λ_ _ _ n _=>n,λb ob q _=>⟨ob,k b ob q⟩,λ_ _ q=>q,λ_ _ _ q=>q,λ_ ps q=>⟨#[],by rw[q];simp⟩⟩
theorem Un.refl:Un fs ex H H h h:=Un.kept λ_ _ q=>q
theorem Un.laid (k:∀b u,h.get? b=some u->h'.get? b=some u) (hp:h.objs.size<=a) (hn:H a=none):Un fs ex H (upd H a o) h h' where
 keep:=λb u q _ _ _=>k b u q
 slot:=λb u q _ _ _=>⟨u.slots,k b u q⟩
 free:=λb u q n _=>by rw[br (cC (bc (Heap.lt_size q) hp))];exact n
 there:=λb u q _=>⟨u,k b u q⟩
 tups:=λb xs q=>by rw[br (eE q hn)];exact q
 frzs:=λb u xs q=>by rw[br (eE q hn)];exact q
 tbls:=λb ps q=>⟨#[],by rw[br (eE q hn),q];simp⟩
theorem Un.write (mu:MO (H x)) (he:e=x\/H e=some (.own x)) (k:∀b u,b≠e->h.get? b=some u->h'.get? b=some u) (heo:∃u,h'.get? e=some u):Un fs ex H (upd H x o) h h':=by
 have hx:∀b,H b=none->b≠x:=λb n z=>by subst z;rw[n] at mu;exact mu
 have hb:∀b,H b=none->b≠e:=λb n z=>by
  subst z;rcases he with r | r
  ·exact hx b n r
  ·rw[n] at r;cases r
 have hm:∀b u,H b=some u->¬MO (some u)->b≠x:=λb u q nm z=>by subst z;rw[q] at mu;exact nm mu
 refine ⟨λb u q n _ _=>k b u (hb b n) q,λb u q n _ _=>⟨u.slots,k b u (hb b n) q⟩,λb u q n _=>by rw[br (hx b n)];exact n,λb u q _=>?_,
  λb xs q=>by rw[br (hm b _ q λz=>z)];exact q,λb u xs q=>by rw[br (hm b _ q λz=>z)];exact q,λb ps q=>⟨#[],by rw[br (hm b _ q λz=>z),q];simp⟩⟩
 by_cases hbe:b=e
 ·subst hbe;exact heo
 ·exact ⟨u,k b u hbe q⟩
end
def MH (h:Heap) (H:Hp):List Addr:=(List.range h.objs.size).filter λa=>(H a).isSome
def zE (h:Heap) (H:Hp):Heap:=PySem.W.hideAll h (MH h H)
theorem ER (h:Heap) (H:Hp):(zE h H).objs.size=h.objs.size:=PySem.W.hideAll_size _ _
theorem Ge (e:h.get? b=some o) (n:H b=none):(zE h H).get? b=some o :=
 PySem.W.hideAll_get _ e λhm=>by
  have q:(H b).isSome=true:=(List.mem_filter.mp hm).2;rw[n] at q;simp at q
theorem Jc (e:(zE h H).get? b=some o):h.get? b=some o/\H b=none:=by
 have e':h.get? b=some o:=PySem.W.of_hideAll (MH h H) e;refine ⟨e',?_⟩;cases q:H b with
 | none=>rfl
 | some x =>
  have hm:b∈MH h H:=List.mem_filter.mpr ⟨J8.mpr (Heap.lt_size e'),by simp [q]⟩;have z:(zE h H).get? b=none:=PySem.W.hideAll_none (MH h H) hm;rw[z] at e;cases e
structure Mod (K:FG9) (mg:Str->Option Value) (base:Heap):Prop where
 kin:K.In base
 glob:base.Ns mainGlobals mg
 blt:∃mb,base.Ns builtinsNs mb/\∀x:Str,x≠"__name__"->mb x=bootBuiltins x
 nolimit:base.NoLimit
structure Cx where
 prog:Program
 w:World
 K:FG9
 mg:Str->Option Value
 base:Heap
 A:Around
 N:List Str
 s₀:Shared
 H₀:Hp
 env:Env
 outer:List Env
 stack:List Env
 ex:List Addr
 fn:Str->Bool
 calm:Bool
 pn:List (Addr×Obj)
 xe:Value->Shared->Prop
def E6 (l:List Env):List Addr:=l.filterMap (·.frame)
abbrev Cx.fs (X:Cx):List Addr:=E6 X.outer
def Ni (sc:Scope) (x:Str):Prop:=sc.names.lookup x=some .local\/sc.names.lookup x=some .cell\/sc.names.lookup x=some .free
def Loc (sc:Scope) (x:Str):Prop:=sc.names.lookup x=some .local\/sc.names.lookup x=some .cell
def Look (env:Env) (h:Heap) (m:Str->Option Value) (x:Str) (u:Value):Prop :=
 (env.kindOf x=some .local/\m x=some u)\/((env.kindOf x=some .cell\/env.kindOf x=some .free)/\∃c,env.cells.lookup x=some c/\h.IsCell c (some u))
structure Cx.Ok (X:Cx):Prop where
 mod:Mod X.K X.mg X.base
 kind:X.env.scope.kind=.function
 glob:X.env.globals=mainGlobals
 blt:X.env.builtins=builtinsNs
 above:X.s₀.heap.objs.size<=X.env.locals
 inj:∀x y c,X.env.cells.lookup x=some c->X.env.cells.lookup y=some c->x=y
 has:∀x,(X.env.kindOf x=some .cell\/X.env.kindOf x=some .free)->∃c,X.env.cells.lookup x=some c
 cab:∀x c,X.fn x=true->X.env.cells.lookup x=some c->X.s₀.heap.objs.size<=c
 hd:X.calm=true->X.A.handled=none
 frames:X.A.frames=some X.stack
 stk:X.stack=X.outer\/(X.stack=X.env :: X.outer/\X.env.frame=some X.env.locals)
 exf:∀b∈X.ex,b≠X.env.locals/\∀x c,X.env.cells.lookup x=some c->c≠b
 bs:∀b o,X.base.get? b=some o->X.s₀.heap.get? b=some o/\X.H₀ b=none
 bsz:X.base.objs.size<=X.s₀.heap.objs.size
 noex:∀b o,X.base.get? b=some o->b∉X.ex
 exfs:∀b∈X.ex,b∉X.fs
 funs:X.s₀.heap.FunFrames X.base X.outer
 frf:∀b∈X.fs,X.H₀ b=none
structure Inv (X:Cx) (pins:List (Addr×Obj)) (σ:List (Option V)) (H:Hp) (s:Shared):Prop where
 ok:X.Ok
 os:s.os=X.s₀.os
 bare:AllBare s.gens
 base:Un X.fs X.ex X.H₀ H X.s₀.heap s.heap
 loc:∃m,s.heap.Ns X.env.locals m/\∀(i:Nat) (x:Str) (v:V),X.N[i]?=some x->σ[i]?=some (some v)->Ni X.env.scope x->∃u,RelV v u/\Look X.env s.heap m x u
 cell:∀x c,X.env.cells.lookup x=some c->∃v,s.heap.IsCell c v
 free:H X.env.locals=none
 freeC:∀x c,X.env.cells.lookup x=some c->H c=none
 pin:∀p∈X.pn++pins,s.heap.get? p.1=some p.2/\H p.1=none/\p.1≠X.env.locals/\p.1∉X.fs/\∀v,p.2.data≠.cell v
 hok:uZ X.prog X.w H s.heap
 len:σ.length=X.N.length
section
variable {X:Cx} {pins:List (Addr×Obj)} {σ:List (Option V)} {H H':Hp} {s:Shared} {h':Heap}
theorem Cx.Ok.nofr (ok:X.Ok) (e:X.base.get? b=some o):b∉X.fs:=λhb=>by
 have:=(ok.funs.mem hb).1;rw[e] at this;cases this
theorem Inv.bs (I:Inv X pins σ H s):∀b o,X.base.get? b=some o->s.heap.get? b=some o/\H b=none:=λb o e =>
 ⟨I.base.keep b o (I.ok.bs b o e).1 (I.ok.bs b o e).2 (I.ok.nofr e) (I.ok.noex b o e),I.base.free b o (I.ok.bs b o e).1 (I.ok.bs b o e).2 (I.ok.noex b o e)⟩
theorem Inv.bk (I:Inv X pins σ H s):∀b o,X.base.get? b=some o->s.heap.get? b=some o:=λb o e=>(I.bs b o e).1
theorem Inv.mod (I:Inv X pins σ H s):Mod X.K X.mg X.base:=I.ok.mod
theorem Inv.kIn (I:Inv X pins σ H s):X.K.In s.heap:=I.ok.mod.kin.keeps I.bk
theorem Inv.lt (I:Inv X pins σ H s):X.env.locals < s.heap.objs.size:=let ⟨_,hn,_⟩:=I.loc;hn.lt
theorem Inv.sz (I:Inv X pins σ H s):X.s₀.heap.objs.size<=s.heap.objs.size:=ai I.ok.above (bf I.lt)
theorem Inv.nofs (I:Inv X pins σ H s) {a:Addr} (h:s.heap.objs.size<=a):a∉X.fs:=λhb=>by
 obtain ⟨_,o,ho,_⟩:=I.ok.funs.mem hb;exact absurd (bc (Heap.lt_size ho) (ai I.sz h)) (dY _)
theorem Inv.cne (I:Inv X pins σ H s):∀x c,X.env.cells.lookup x=some c->c≠X.env.locals:=λx c e z=>by
 obtain ⟨v,o,ho,hd⟩:=I.cell x c e;obtain ⟨m,⟨o',es,ep,ho',hd',_⟩,_⟩:=I.loc;rw[z,ho'] at ho;cases ho;rw[hd'] at hd;cases hd
theorem Inv.funs (I:Inv X pins σ H s):s.heap.FunFrames X.base X.outer:=by
 have all:∀(l:List Env),(∀b∈E6 l,b∈X.fs)->X.s₀.heap.FunFrames X.base l->s.heap.FunFrames X.base l:=by
  intro l
  induction l with
  | nil=>intro _ _;trivial
  | cons env r ih =>
   intro hs hl;obtain ⟨hk,⟨L,o,hf,hn,ho,hd⟩,hr⟩:=hl;have hL:L∈X.fs:=hs L (by unfold E6;rw[zY,hf];exact cu);obtain ⟨sl,e⟩:=I.base.slot L o ho (I.ok.frf L hL) hL λz=>I.ok.exfs L z hL
   exact ⟨hk,⟨L,_,hf,hn,e,hd⟩,ih (λb hb=>hs b (by unfold E6;rw[zY,hf];exact ba _ hb)) hr⟩
 exact all X.outer (λ_ hb=>hb) I.ok.funs
theorem Inv.stack (I:Inv X pins σ H s):s.heap.FunFrames X.base X.stack:=by
 rcases I.ok.stk with e | ⟨e,hf⟩
 ·rw[e];exact I.funs
 ·rw[e];obtain ⟨m,hn,_⟩:=I.loc;refine .cons (by rw[I.ok.kind];decide) hf hn ?_ I.funs;exact Heap.get?_none_of_le (ai I.ok.bsz I.ok.above)
theorem Inv.stkSub (I:Inv X pins σ H s):∀b∈E6 X.stack,b∈X.env.locals :: X.fs:=λb hb=>by
 rcases I.ok.stk with e | ⟨e,hf⟩
 ·rw[e] at hb;exact ba _ hb
 ·rw[e] at hb;unfold E6 at hb;rw[zY,hf] at hb;exact hb
theorem Inv.stkFree (I:Inv X pins σ H s):∀b∈E6 X.stack,H b=none:=λb hb=>by
 rcases aA.mp (I.stkSub b hb) with e | hb
 ·rw[e];exact I.free
 ·obtain ⟨_,o,ho,_⟩:=I.ok.funs.mem hb;exact I.base.free b o ho (I.ok.frf b hb) λz=>I.ok.exfs b z hb
theorem Inv.step {ch:List Addr} (I:Inv X pins σ H s)
  (hch:∀b∈ch,(b∈X.ex\/X.s₀.heap.objs.size<=b)/\b≠X.env.locals/\(∀x c,X.env.cells.lookup x=some c->c≠b)/\∀p∈X.pn++pins,p.1≠b)
  (keep:∀b o,b≠X.env.locals->b∉X.fs->b∉ch->s.heap.get? b=some o->H b=none->h'.get? b=some o)
  (slot:∀b o,b≠X.env.locals->b∈X.fs->b∉ch->s.heap.get? b=some o->H b=none->∃sl,h'.get? b=some { o with slots:=sl }) (free:∀b o,b∉ch->s.heap.get? b=some o->H b=none->H' b=none)
  (there:∀b o,b∉ch->s.heap.get? b=some o->∃o',h'.get? b=some o')
  (tups:∀b xs,H b=some (.tup xs)->H' b=some (.tup xs)) (frzs:∀b o u,H b=some (.frz o u)->H' b=some (.frz o u)) (tbls:∀b ps,H b=some (.tbl ps)->∃more,H' b=some (.tbl (ps++more)))
  (ns:∀m,s.heap.Ns X.env.locals m->h'.Ns X.env.locals m) (hok:uZ X.prog X.w H' h') (hg:AllBare g') :
  Inv X pins σ H' { s with heap:=h',gens:=g',drawn:=d',toks:=t' }:=by
 have neL:∀b o,X.s₀.heap.get? b=some o->b≠X.env.locals:=λb o e=>cC (bc (Heap.lt_size e) I.ok.above)
 have neC:∀b o,X.s₀.heap.get? b=some o->b∉X.ex->b∉ch:=λb o e hx hb=>by
  rcases (hch b hb).1 with z | z
  ·exact hx z
  ·exact absurd (bc (Heap.lt_size e) z) (dY _)
 have cellK:∀x c,X.env.cells.lookup x=some c->∀v,s.heap.IsCell c v->h'.IsCell c v:=λx c e v ⟨o,ho,hd⟩=>by
  have nch:c∉ch:=λz=>(hch c z).2.2.1 x c e rfl
  by_cases hc:c∈X.fs
  ·obtain ⟨sl,q⟩:=slot c o (I.cne x c e) hc nch ho (I.freeC x c e);exact ⟨_,q,hd⟩
  ·exact ⟨o,keep c o (I.cne x c e) hc nch ho (I.freeC x c e),hd⟩
 refine ⟨I.ok,I.os,hg,⟨λb o e n hb hx=>?_,λb o e n hb hx=>?_,λb o e n hx=>?_,λb o e hx=>?_,λb xs e=>tups b xs (I.base.tups b xs e),λb o xs e=>frzs b o xs (I.base.frzs b o xs e),λb ps e=>?_⟩,?_,λx c e=>?_,?_,λx c e=>?_,λp hp=>?_,hok,I.len⟩
 ·exact keep b o (neL b o e) hb (neC b o e hx) (I.base.keep b o e n hb hx) (I.base.free b o e n hx)
 ·obtain ⟨sl,e1⟩:=I.base.slot b o e n hb hx;obtain ⟨sl',e2⟩:=slot b _ (neL b o e) hb (neC b o e hx) e1 (I.base.free b o e n hx);exact ⟨sl',e2⟩
 ·obtain ⟨o',e1⟩:=I.base.there b o e hx;exact free b o' (neC b o e hx) e1 (I.base.free b o e n hx)
 ·obtain ⟨o',e1⟩:=I.base.there b o e hx;exact there b o' (neC b o e hx) e1
 ·obtain ⟨m1,e1⟩:=I.base.tbls b ps e;obtain ⟨m2,e2⟩:=tbls b _ e1;exact ⟨m1++m2,by rw[e2,Array.append_assoc]⟩
 ·obtain ⟨m,hn,hl⟩:=I.loc;refine ⟨m,ns m hn,λi x v e1 e2 e3=>?_⟩;obtain ⟨u,r,l⟩:=hl i x v e1 e2 e3;refine ⟨u,r,?_⟩;rcases l with l | ⟨k,c,e,z⟩
  ·exact .inl l
  ·exact .inr ⟨k,c,e,cellK x c e _ z⟩
 ·obtain ⟨v,z⟩:=I.cell x c e;exact ⟨v,cellK x c e v z⟩
 ·obtain ⟨m,⟨o,_,_,ho,_⟩,_⟩:=I.loc;exact free _ o (λz=>(hch _ z).2.1 rfl) ho I.free
 ·obtain ⟨v,o,ho,hd⟩:=I.cell x c e;exact free c o (λz=>(hch c z).2.2.1 x c e rfl) ho (I.freeC x c e)
 ·obtain ⟨e,n,ne,nf,d⟩:=I.pin p hp;have nch:p.1∉ch:=λz=>(hch p.1 z).2.2.2 p hp rfl
  exact ⟨keep p.1 p.2 ne nf nch e n,free p.1 p.2 nch e n,ne,nf,d⟩
theorem Inv.un (I:Inv X pins σ H s) (u:Un X.fs [] H H' s.heap h') (hok:uZ X.prog X.w H' h'):Inv X pins σ H' { s with heap:=h',toks:=t' }:=by
 obtain ⟨m,⟨o,es,ep,ho,r⟩,_⟩:=id I.loc;obtain ⟨sl,hL⟩:=u.any ho I.free (by simp)
 exact I.step (g':=s.gens) (d':=s.drawn) (ch:=[]) (λ_ z=>nomatch z) (λb o _ hb _ e n=>u.keep b o e n hb (by simp)) (λb o _ hb _ e n=>u.slot b o e n hb (by simp)) (λb o _ e n=>u.free b o e n (by simp)) (λb o _ e=>u.there b o e (by simp)) u.tups u.frzs u.tbls (λm' hm=>by
  obtain ⟨o',es',ep',ho',r'⟩:=hm;rw[ho] at ho';cases ho';exact ⟨_,es',ep',hL,r'⟩) hok I.bare
theorem Inv.call (I:Inv X pins σ H s) (u:Un (E6 X.stack) ch H H' s.heap h') (hok:uZ X.prog X.w H' h') (hg:AllBare g')
  (hch:∀b∈ch,(b∈X.ex\/X.s₀.heap.objs.size<=b)/\b≠X.env.locals/\(∀x c,X.env.cells.lookup x=some c->c≠b)/\∀p∈X.pn++pins,p.1≠b) :
  Inv X pins σ H' { s with heap:=h',gens:=g',drawn:=d',toks:=t' }:=by
 obtain ⟨m,⟨o,es,ep,ho,r⟩,_⟩:=id I.loc;obtain ⟨sl,hL⟩:=u.any ho I.free λz=>(hch _ z).2.1 rfl
 exact I.step (ch:=ch) hch (λb o hL hb hc e n=>u.keep b o e n (λz=>(aA.mp (I.stkSub b z)).elim hL hb) hc) (λb o _ _ hc e n=>u.any e n hc) (λb o hc e n=>u.free b o e n hc) (λb o hc e=>u.there b o e hc) u.tups u.frzs u.tbls (λm' hm=>by
  obtain ⟨o',es',ep',ho',r'⟩:=hm;rw[ho] at ho';cases ho';exact ⟨_,es',ep',hL,r'⟩) hok hg
theorem Inv.turned (I:Inv X pins σ H s) (k:∀b o,b≠it->s.heap.get? b=some o->h'.get? b=some o) (hn:H it=none) (hL:it≠X.env.locals)
  (h1:it∈X.ex\/X.s₀.heap.objs.size<=it) (h2:∀x c,X.env.cells.lookup x=some c->c≠it) (h3:∀p∈X.pn++pins,p.1≠it):Inv X pins σ H { s with heap:=h',toks:=t' }:=by
 have nit:∀b u,H b=some u->b≠it:=λb u e z=>by rw[z,hn] at e;cases e
 refine I.step (g':=s.gens) (d':=s.drawn) (ch:=[it]) (λb hb=>?_) (λb o _ _ hc e _=>k b o (λz=>hc (by simp [z])) e) (λb o _ _ hc e _=>⟨o.slots,k b o (λz=>hc (by simp [z])) e⟩) (λ_ _ _ _ n=>n)
  (λb o hc e=>⟨o,k b o (λz=>hc (by simp [z])) e⟩) (λ_ _ e=>e) (λ_ _ _ e=>e) (λb ps e=>⟨#[],by rw[e];simp⟩) (λm hm=>?_) (λb u e=>?_) I.bare
 ·have e:b=it:=by simpa using hb
  subst e;exact ⟨h1,hL,h2,h3⟩
 ·obtain ⟨o,es,ep,ho,r⟩:=hm;exact ⟨o,es,ep,k _ o (Ne.symm hL) ho,r⟩
 ·refine (I.hok b u e).stay (λc v hc q=>k c v ?_ q) (λ_ q=>q) λ_ _ q=>q
  rcases hc with z | z
  ·rw[z];exact nit b u e
  ·exact nit c _ z
theorem Inv.tok (I:Inv X pins σ H s) (t:Nat):Inv X pins σ H { s with toks:=t }:=I.un (h':=s.heap) (t':=t) Un.refl I.hok
theorem Inv.kept (I:Inv X pins σ H s) (k:∀b u,s.heap.get? b=some u->h'.get? b=some u):Inv X pins σ H { s with heap:=h',toks:=t' }:=I.un (Un.kept k) (I.hok.kept k)
theorem Inv.laid {a:Addr} (I:Inv X pins σ H s) (k:∀b u,s.heap.get? b=some u->h'.get? b=some u) (hp:s.heap.objs.size<=a) (new:ia X.prog X.w (upd H a o) h' a o) :
  Inv X pins σ (upd H a o) { s with heap:=h',toks:=t' }:=I.un (Un.laid k hp (I.hok.fresh hp)) (I.hok.laid k hp new)
theorem Inv.write (I:Inv X pins σ H s) (mu:MO (H x)) (he:e=x\/H e=some (.own x)) (k:∀b u,b≠e->s.heap.get? b=some u->h'.get? b=some u) (heo:∃u,h'.get? e=some u)
  (new:ia X.prog X.w (upd H x o) h' x o):Inv X pins σ (upd H x o) { s with heap:=h',toks:=t' }:=I.un (Un.write mu he k heo) (I.hok.write mu he k heo new)
theorem Inv.pins_of (I:Inv X pins σ H s) (h:∀p∈pins',s.heap.get? p.1=some p.2/\H p.1=none/\p.1≠X.env.locals/\p.1∉X.fs/\∀v,p.2.data≠.cell v):Inv X pins' σ H s :=
 ⟨I.ok,I.os,I.bare,I.base,I.loc,I.cell,I.free,I.freeC,λp hp=>(az.mp hp).elim (λz=>I.pin p (d5 _ z)) (h p),I.hok,I.len⟩
theorem AL {N:List Str} (hN:N.Nodup) {i j:Nat} (a:N[i]?=some x) (b:N[j]?=some x):i=j:=by
 obtain ⟨h1,e1⟩:=aV.mp a;obtain ⟨h2,e2⟩:=aV.mp b;exact (List.getElem_inj hN).mp (e1.trans e2.symm)
theorem xO {M:Model} {A:Around} {E:Value->Shared->Prop} {i:Nat} {x:Str} {v:V} {u:Value} {Q:Unit->Shared->Prop} (I:Inv X pins σ H s) (hN:X.N.Nodup) (hi:X.N[i]?=some x) (hx:Loc X.env.scope x) (r:RelV v u)
  (h:∀s',Inv X pins (σ.set i (some v)) H s'->(∃a,Heap.SameBut a s.heap s'.heap/\(a=X.env.locals\/X.env.cells.lookup x=some a))->Q () s') (hf:X.fn x=true\/X.env.scope.names.lookup x=some .local:=by first | exact .inl rfl | exact .inr rfl | assumption):wpAny M A (storeName X.env x u) Q E s:=by
 obtain ⟨m,hn,hl⟩:=id I.loc;have hcls:(X.env.scope.kind == .class || (X.env.scope.kind == .module && X.env.locals != X.env.globals))=false:=by rw[I.ok.kind];rfl
 have hiσ:i < σ.length:=by rw[I.len];exact (aV.mp hi).1
 have cne:=I.cne
 have tracked:∀{a:Addr} {h':Heap},(∃o,s.heap.get? a=some o/\H a=none)->Heap.SameBut a s.heap h'->uZ X.prog X.w H h':=λ{a h'} ha hs b ob e=>by
  obtain ⟨_,_,hfree⟩:=ha;refine (I.hok b ob e).stay (λc w' hc q=>(hs.2 c ?_).trans q) (λ_ q=>q) λ_ _ q=>q
  rintro rfl;rcases hc with rfl | hc
  ·rw[hfree] at e;cases e
  ·rw[hfree] at hc;cases hc
 rcases hx with hk | hk
 ·refine wpAny_storeName_local hk hn (λh' hn' hs=>?_) hcls;obtain ⟨oL,_,_,hoL,_⟩:=id hn;refine h _ ⟨I.ok,I.os,I.bare,⟨λb o e n hb hx=>?_,λb o e n hb hx=>?_,I.base.free,λb o e hx=>?_,I.base.tups,I.base.frzs,I.base.tbls⟩,⟨_,hn',λj y v' e1 e2 e3=>?_⟩,λy c e=>?_,I.free,I.freeC,λp hp=>?_,tracked ⟨oL,hoL,I.free⟩ hs,by simpa using I.len⟩ ⟨_,hs,.inl rfl⟩
  ·exact (hs.2 b (cC (bc (Heap.lt_size e) I.ok.above))).trans (I.base.keep b o e n hb hx)
  ·obtain ⟨sl,e1⟩:=I.base.slot b o e n hb hx;exact ⟨sl,(hs.2 b (cC (bc (Heap.lt_size e) I.ok.above))).trans e1⟩
  ·obtain ⟨o',e1⟩:=I.base.there b o e hx;exact ⟨o',(hs.2 b (cC (bc (Heap.lt_size e) I.ok.above))).trans e1⟩
  ·by_cases hj:j=i
   ·subst hj;rw[hi] at e1;cases e1;rw[List.getElem?_set_self hiσ] at e2;cases e2;exact ⟨u,r,.inl ⟨hk,by simp⟩⟩
   ·rw[List.getElem?_set_ne (Ne.symm hj)] at e2;obtain ⟨u',r',q⟩:=hl j y v' e1 e2 e3;refine ⟨u',r',?_⟩;rcases q with ⟨k,e⟩ | ⟨k,c,e,z⟩
    ·refine .inl ⟨k,?_⟩;have:y≠x:=λe=>hj (AL hN e1 (e ▸ hi))
     simp [this,e]
    ·exact .inr ⟨k,c,e,z.sameBut hs (cne y c e)⟩
  ·obtain ⟨w',z⟩:=I.cell y c e;exact ⟨w',z.sameBut hs (cne y c e)⟩
  ·obtain ⟨e,n,ne,nf,d⟩:=I.pin p hp;exact ⟨(hs.2 p.1 ne).trans e,n,ne,nf,d⟩
 ·have hfn:X.fn x=true:=by
   rcases hf with z | z
   ·exact z
   ·rw[z] at hk;cases hk
  obtain ⟨c,hc⟩:=I.ok.has x (.inl hk);obtain ⟨w',z⟩:=I.cell x c hc;refine wpAny_storeName_cell I.ok.kind hk hc z (λh' hc' hs=>?_);obtain ⟨oc,hoc,hocd⟩:=id z;refine h { s with heap:=h' } ⟨I.ok,I.os,I.bare,⟨λb o e n hb hx=>?_,λb o e n hb hx=>?_,I.base.free,λb o e hx=>?_,I.base.tups,I.base.frzs,I.base.tbls⟩,⟨m,hn.sameBut hs (Ne.symm (cne x c hc)),λj y v' e1 e2 e3=>?_⟩,λy c' e=>?_,I.free,I.freeC,λp hp=>?_,tracked ⟨oc,hoc,I.freeC x c hc⟩ hs,by simpa using I.len⟩ ⟨c,hs,.inr hc⟩
  ·exact (hs.2 b (cC (bc (Heap.lt_size e) (I.ok.cab x c hfn hc)))).trans (I.base.keep b o e n hb hx)
  ·obtain ⟨sl,e1⟩:=I.base.slot b o e n hb hx;exact ⟨sl,(hs.2 b (cC (bc (Heap.lt_size e) (I.ok.cab x c hfn hc)))).trans e1⟩
  ·obtain ⟨o',e1⟩:=I.base.there b o e hx;exact ⟨o',(hs.2 b (cC (bc (Heap.lt_size e) (I.ok.cab x c hfn hc)))).trans e1⟩
  ·by_cases hj:j=i
   ·subst hj;rw[hi] at e1;cases e1;rw[List.getElem?_set_self hiσ] at e2;cases e2;exact ⟨u,r,.inr ⟨.inl hk,c,hc,hc'⟩⟩
   ·rw[List.getElem?_set_ne (Ne.symm hj)] at e2;obtain ⟨u',r',q⟩:=hl j y v' e1 e2 e3;refine ⟨u',r',?_⟩;rcases q with q | ⟨k,c',e,z'⟩
    ·exact .inl q
    ·refine .inr ⟨k,c',e,z'.sameBut hs ?_⟩;rintro rfl;exact hj (AL hN e1 (I.ok.inj _ _ _ e hc ▸ hi))
  ·by_cases hcc:c'=c
   ·subst hcc;exact ⟨_,hc'⟩
   ·obtain ⟨w2,z2⟩:=I.cell y c' e;exact ⟨w2,z2.sameBut hs hcc⟩
  ·obtain ⟨e,n,ne,nf,d⟩:=I.pin p hp;refine ⟨(hs.2 p.1 ?_).trans e,n,ne,nf,d⟩;intro q;rw[q,hoc] at e;have q':oc=p.2:=bY e;exact d w' (by rw[<- q'];exact hocd)
theorem pZ {M:Model} {A:Around} {E:Value->Shared->Prop} {i:Nat} {x:Str} {v:V} {u:Value} {Q:Unit->Shared->Prop} (I:Inv X pins σ H s) (hN:X.N.Nodup) (hi:X.N[i]?=some x) (hx:Loc X.env.scope x) (r:RelV v u)
  (h:∀s',Inv X pins (σ.set i (some v)) H s'->Q () s') (hf:X.fn x=true\/X.env.scope.names.lookup x=some .local:=by first | exact .inl rfl | exact .inr rfl | assumption):wpAny M A (storeName X.env x u) Q E s :=
 xO I hN hi hx r (λs' I' _=>h s' I') hf
theorem Inv.call' (I:Inv X pins σ H s) (ho:s'.os=s.os) (u:Un (E6 X.stack) ch H H' s.heap s'.heap) (hok:uZ X.prog X.w H' s'.heap) (hg:AllBare s'.gens)
  (hch:∀b∈ch,(b∈X.ex\/X.s₀.heap.objs.size<=b)/\b≠X.env.locals/\(∀x c,X.env.cells.lookup x=some c->c≠b)/\∀p∈X.pn++pins,p.1≠b):Inv X pins σ H' s':=by
 obtain ⟨h',g',d',t',o'⟩:=s';have e:o'=s.os:=ho;subst e;exact I.call (g':=g') (t':=t') (d':=d') u hok hg hch
end
abbrev XK:=Value->Option Addr->Hp->Prop
abbrev St:=List (Option V)
abbrev VK:=V->Hp->Prop
abbrev TE:=St->Hp->VK->Prop
abbrev TT:=St->Hp->(Bool->Hp->Prop)->Prop
abbrev TA:=St->Hp->(List V->Hp->Prop)->Prop
structure Ends where
 nx:St->Hp->Prop
 rt:VK
 bk:St->Hp->Prop:=λ_ _=>False
 ct:St->Hp->Prop:=λ_ _=>False
abbrev TS:=Ends->St->Hp->Prop
def EP (X:Cx) (pins:List (Addr×Obj)) (σ:St) (Q:VK) (u:Value) (s':Shared):Prop:=∃v H',Inv X pins σ H' s'/\RelV v u/\Q v H'
def TP (X:Cx) (pins:List (Addr×Obj)) (σ:St) (Q:Bool->Hp->Prop) (b:Bool) (s':Shared):Prop:=∃H',Inv X pins σ H' s'/\Q b H'
def AP (X:Cx) (pins:List (Addr×Obj)) (σ:St) (Q:List V->Hp->Prop) (us:List Value) (s':Shared):Prop:=∃vs H',Inv X pins σ H' s'/\cI vs us/\Q vs H'
def SP (X:Cx) (pins:List (Addr×Obj)) (D:Ends) (f:Flow) (s':Shared):Prop :=
 match f with
 | .next=>∃σ' H',Inv X pins σ' H' s'/\D.nx σ' H'
 | .brk=>∃σ' H',Inv X pins σ' H' s'/\D.bk σ' H'
 | .cont=>∃σ' H',Inv X pins σ' H' s'/\D.ct σ' H'
 | .ret u=>∃v σ' H',Inv X pins σ' H' s'/\RelV v u/\D.rt v H'
def PE (X:Cx) (e:Expr) (t:TE):Prop :=
 ∀(pins:List (Addr×Obj)) (s:Shared) (σ:St) (H:Hp) (Q:VK),Inv X pins σ H s->t σ H Q->wpAny (model X.prog X.w) X.A (eval e X.env) (EP X pins σ Q) X.xe s
def PT (X:Cx) (e:Expr) (t:TT):Prop :=
 ∀(pins:List (Addr×Obj)) (s:Shared) (σ:St) (H:Hp) (Q:Bool->Hp->Prop),Inv X pins σ H s->t σ H Q->wpAny (model X.prog X.w) X.A (isTrue e X.env (eval e X.env)) (TP X pins σ Q) X.xe s
def PW (X:Cx) (e:Expr) (t:TT):Prop :=
 ∀(whole:Sem Value) (pins:List (Addr×Obj)) (s:Shared) (σ:St) (H:Hp) (Q:Bool->Hp->Prop),Inv X pins σ H s->t σ H Q->wpAny (model X.prog X.w) X.A (isTrue e X.env whole) (TP X pins σ Q) X.xe s
theorem PW.pt (h:PW X e t):PT X e t:=h _
def PA (X:Cx) (es:List Expr) (t:TA):Prop :=
 ∀(pos:Pos) (pins:List (Addr×Obj)) (s:Shared) (σ:St) (H:Hp) (Q:List V->Hp->Prop),Inv X pins σ H s->t σ H Q->wpAny (model X.prog X.w) X.A (spliced (backTo pos (starEach es X.env))) (AP X pins σ Q) X.xe s
def PS (X:Cx) (st:Stmt) (t:TS):Prop :=
 ∀(pins:List (Addr×Obj)) (s:Shared) (σ:St) (H:Hp) (D:Ends),Inv X pins σ H s->t D σ H->wpAny (model X.prog X.w) X.A (exec st X.env) (SP X pins D) X.xe s
def CG (X:Cx) (st:List Stmt) (t:TS):Prop :=
 ∀(pins:List (Addr×Obj)) (s:Shared) (σ:St) (H:Hp) (D:Ends),Inv X pins σ H s->t D σ H->wpAny (model X.prog X.w) X.A (execs st X.env) (SP X pins D) X.xe s
theorem fB {t:Sem α} {Q Q':α->Shared->Prop} (h:wpAny M A t Q E s) (hQ:∀a s,Q a s->Q' a s):wpAny M A t Q' E s:=wpAny_mono h hQ λ_ _ x=>x
section
variable {X:Cx}
def Kh (i:Nat):TE:=λσ H Q=>∃v,σ[i]?=some (some v)/\Q v H
def tC (v:V):TE:=λ_ H Q=>Q v H
theorem KU {i:Nat} {x:Str} {pos:Pos} (hN:X.N[i]?=some x) (hv:Ni X.env.scope x) (hd:(x == ("__debug__":Str))=false:=by decide) (hcd:(x == ("__classdict__":Str))=false:=by decide):PE X (.Name x pos) (Kh i):=by
 intro pins s σ H Q I h;obtain ⟨v,e,h⟩:=h;obtain ⟨m,hn,hl⟩:=I.loc;obtain ⟨u,r,l⟩:=hl i x v hN e hv;have fin:EP X pins σ Q u s:=⟨v,H,I,r,h⟩;rcases l with ⟨hk,hm⟩ | ⟨hk,c,hc,hcell⟩
 ·exact wpAny_Name (wpAny_loadName_local I.ok.kind hk hn hm fin) hd
 ·rcases hk with hk | hk
  ·exact wpAny_Name (wpAny_loadName_cell I.ok.kind hk hc hcell fin) hd
  ·exact wpAny_Name (wpAny_loadName_free I.ok.kind hk hc hcell fin hcd) hd
theorem aj:PE X (.Constant (.int i) j pos) (tC (.int i)):=λ_ _ _ H _ I h=>wpAny_Constant_int ⟨.int i,H,I.tok _,⟨_,rfl⟩,h⟩
theorem yb:PE X (.Constant (.bool b) j pos) (tC (.bl b)):=λ_ _ _ H _ I h=>Constant_bool ⟨.bl b,H,I,rfl,h⟩
theorem pG:PE X (.Constant .none j pos) (tC .non):=λ_ _ _ H _ I h=>Constant_none ⟨.non,H,I,rfl,h⟩
theorem vR:PE X (.Constant (.str x) j pos) (tC (.str x)):=λ_ _ _ H _ I h=>Calls.Constant_str ⟨.str x,H,I.tok _,⟨_,rfl⟩,h⟩
def Gl (X:Cx) (x:Str):Prop:=X.env.kindOf x=some .globalImplicit
theorem zC {E:Value->Shared->Prop} {pins:List (Addr×Obj)} {s:Shared} {σ:St} {H:Hp} {x:Str} {u:Value} {pos:Pos} {Q:Value->Shared->Prop} (I:Inv X pins σ H s) (hg:Gl X x) (hm:X.mg x=some u) (h:Q u s)
  (hd:(x == ("__debug__":Str))=false:=by decide):wpAny (model X.prog X.w) X.A (eval (.Name x pos) X.env) Q E s :=
 Calls.Name_function_global I.ok.kind hg (Calls.loadGlobal_global (by rw[I.ok.glob];exact I.mod.glob.keeps I.bk) hm h) hd
theorem jv {E:Value->Shared->Prop} {pins:List (Addr×Obj)} {s:Shared} {σ:St} {H:Hp} {x:Str} {u:Value} {pos:Pos} {Q:Value->Shared->Prop} (I:Inv X pins σ H s) (hg:Gl X x) (hm:X.mg x=none) (hv:bootBuiltins x=some u) (h:Q u s)
  (hn:x≠"__name__":=by decide) (hd:(x == ("__debug__":Str))=false:=by decide):wpAny (model X.prog X.w) X.A (eval (.Name x pos) X.env) Q E s:=by
 obtain ⟨mb,h1,h2⟩:=I.mod.blt;exact Calls.Name_function_global I.ok.kind hg (Calls.loadGlobal_builtin (by rw[I.ok.glob];exact I.mod.glob.keeps I.bk) hm (by rw[I.ok.blt];exact h1.keeps I.bk) ((h2 x hn).trans hv) h) hd
theorem p9 {x:Str} {v:V} {u:Value} {pos:Pos} (hg:Gl X x) (hm:X.mg x=some u) (r:RelV v u) (hd:(x == ("__debug__":Str))=false:=by decide):PE X (.Name x pos) (tC v) :=
 λ_ _ _ H _ I h=>zC I hg hm ⟨v,H,I,r,h⟩ hd
theorem Dq {x:Str} {v:V} {u:Value} {pos:Pos} (hg:Gl X x) (hm:X.mg x=none) (hv:bootBuiltins x=some u) (r:RelV v u) (hn:x≠"__name__":=by decide) (hd:(x == ("__debug__":Str))=false:=by decide):PE X (.Name x pos) (tC v) :=
 λ_ _ _ H _ I h=>jv I hg hm hv ⟨v,H,I,r,h⟩ hn hd
variable {a b:Expr} {ta tb:TE} {pos:Pos}
def tB (t:TE):TT:=λσ H Q=>t σ H λx H1=>∃c,x=.bl c/\Q c H1
theorem rR {e:Expr} {t:TE} (h:PE X e t) (he:∀whole,isTrue e X.env whole=(do let v <- whole;standAt e.pos;holding [v] (truthy v)):=by intro _;rfl):PT X e (tB t):=by
 intro pins s σ H Q I hw;refine isTrue_plain (fB (h pins s σ H _ I hw) λv s1 ⟨x,H1,I1,r1,q1⟩=>?_) (he _);obtain ⟨d,rfl,q⟩:=q1;cases r1;exact wpAny_truthy_bool ⟨H1,I1,q⟩
variable {tA tB':TT} {rest:List Expr}
def LR (t u:TT):TT:=λσ H Q=>t σ H λc H1=>if c=true then u σ H1 Q else Q false H1
def tOr (t u:TT):TT:=λσ H Q=>t σ H λc H1=>if c=true then Q true H1 else u σ H1 Q
def LN (t:TT):TT:=λσ H Q=>t σ H λc H1=>Q (!c) H1
theorem jB (ha:PT X a tA):PW X (.BoolOp .And [a] pos) tA:=by
 intro wh pins s σ H Q I h;refine isTrue_and (fB (ha pins s σ H Q I h) λc s1 e=>?_);cases c with
 | true=>exact isTrue_and_nil e
 | false=>exact e
theorem nI (ha:PT X a tA):PW X (.BoolOp .Or [a] pos) tA:=by
 intro wh pins s σ H Q I h;refine isTrue_or (fB (ha pins s σ H Q I h) λc s1 e=>?_);cases c with
 | false=>exact isTrue_or_nil e
 | true=>exact e
theorem iU (ha:PT X a tA) (hb:PW X (.BoolOp .And (b :: rest) pos) tB'):PW X (.BoolOp .And (a :: b :: rest) pos) (LR tA tB'):=by
 intro wh pins s σ H Q I h;refine isTrue_and (fB (ha pins s σ H _ I h) λc s1 ⟨H1,I1,q1⟩=>?_);cases c with
 | true=>exact hb wh pins s1 σ H1 Q I1 q1
 | false=>exact ⟨H1,I1,q1⟩
theorem tH (ha:PT X a tA) (hb:PW X (.BoolOp .Or (b :: rest) pos) tB'):PW X (.BoolOp .Or (a :: b :: rest) pos) (tOr tA tB'):=by
 intro wh pins s σ H Q I h;refine isTrue_or (fB (ha pins s σ H _ I h) λc s1 ⟨H1,I1,q1⟩=>?_);cases c with
 | true=>exact ⟨H1,I1,q1⟩
 | false=>exact hb wh pins s1 σ H1 Q I1 q1
theorem rS (ha:PT X a tA):PT X (.UnaryOp .Not a pos) (LN tA):=by
 intro pins s σ H Q I h;exact isTrue_not (ha pins s σ H (λc H1=>Q (!c) H1) I h)
def JJ (ta tb:TE):TE:=λσ H Q=>ta σ H λx H1=>∃c,x=.bl c/\if c=true then tb σ H1 Q else Q (.bl false) H1
def JD (ta:TE):TE:=λσ H Q=>ta σ H λx H1=>∃c,x=.bl c/\Q (.bl (!c)) H1
theorem BW (h:PE X a t):PE X (.BoolOp op [a] pos) t:=λpins s σ H Q I hw=>BoolOp_one (h pins s σ H Q I hw)
theorem BX (ha:PE X a ta) (hb:PE X (.BoolOp .And (b :: rest) pos) tb):PE X (.BoolOp .And (a :: b :: rest) pos) (JJ ta tb):=by
 intro pins s σ H Q I h;refine BoolOp_and (fB (ha pins s σ H _ I h) λv s1 ⟨x,H1,I1,r1,q1⟩=>?_);obtain ⟨c,rfl,q1⟩:=q1;cases r1;refine wpAny_truthy_bool ?_;cases c with
 | true=>exact hb pins s1 σ H1 Q I1 q1
 | false=>exact ⟨.bl false,H1,I1,rfl,q1⟩
theorem KW (ha:PE X a ta):PE X (.UnaryOp .Not a pos) (JD ta):=by
 intro pins s σ H Q I h;refine UnaryOp_ (fB (ha pins s σ H _ I h) λv s1 ⟨x,H1,I1,r1,q1⟩=>?_);obtain ⟨c,rfl,q1⟩:=q1;cases r1;exact not_of (wpAny_truthy_bool ⟨.bl (!c),H1,I1,rfl,q1⟩)
end
def bL (K:FG9) (H:Hp) (a:Addr) (xs:List V):Prop :=
 Rd H a (.lst xs) \/
  ∃(o:Obj) (its:Array Value) (n:Nat),K.lookup a=some o/\o.cls=.type "list"/\o.dict=none/\o.data=.seq its n/\its.size<=sizeLine/\cI xs its.toList
def mB (K:FG9) (H:Hp) (a:Addr) (xs:List V):Prop :=
 Rd H a (.tup xs) \/
  ∃(o:Obj) (its:Array Value) (n:Nat),K.lookup a=some o/\o.cls=.type "tuple"/\o.data=.seq its n/\its.size<=sizeLine/\cI xs its.toList
def Nh:Value->Option V
 | .none=>some .non
 | .bool b=>some (.bl b)
 | .int i _=>some (.int i)
 | .str x _=>some (.str x)
 | .bytes b _=>some (.byt b)
 | .float b _=>some (.flt b)
 | .ref a=>some (.ref a)
 | .type n=>some (.ty n)
 | _=>none
theorem RelV.abs (r:RelV x u):Nh u=some x:=by
 cases x with
 | non=>cases r;rfl
 | bl _=>cases r;rfl
 | int _=>obtain ⟨t,rfl⟩:=r;rfl
 | str _=>obtain ⟨t,rfl⟩:=r;rfl
 | byt _=>obtain ⟨t,rfl⟩:=r;rfl
 | flt _=>obtain ⟨t,rfl⟩:=r;rfl
 | ref _=>cases r;rfl
 | ty _=>cases r;rfl
theorem RelV.inj (r:RelV x u) (q:RelV y u):x=y:=bY (r.abs.symm.trans q.abs)
theorem cI.inj:∀{xs ys:List V} {us:List Value},cI xs us->cI ys us->xs=ys
 | _,_,_,.nil,.nil=>rfl
 | _,_,_,.cons r t,.cons r' t'=>by rw[r.inj r',cI.inj t t']
section
variable {X:Cx} {pins:List (Addr×Obj)} {σ:St} {H:Hp} {s:Shared} {a:Addr} {xs ys:List V}
theorem bL.of {K:FG9} (h:H a=some (.lst xs)):bL K H a xs:=.inl (.inl h)
theorem mB.of {K:FG9} (h:H a=some (.tup xs)):mB K H a xs:=.inl (.inl h)
theorem Inv.list (I:Inv X pins σ H s) (h:bL X.K H a xs):∃its:List Value,cI xs its/\PlainL s.heap a its.toArray/\xs.length<=sizeLine:=by
 rcases h with h | ⟨o,its,n,hk,hc,hd,hs,hz,r⟩
 ·obtain ⟨z,its,n,r,e⟩:=h.ok I.hok;exact ⟨its,r,⟨_,n,e,rfl,rfl,rfl⟩,z⟩
 ·refine ⟨its.toList,r,⟨o,n,I.kIn a o hk,hc,hd,by simpa using hs⟩,?_⟩;have e:=r.length;simp only[Array.length_toList] at e
  lia
theorem Inv.tuple (I:Inv X pins σ H s) (h:mB X.K H a xs):∃its:List Value,cI xs its/\IsTup s.heap a its.toArray/\xs.length<=sizeLine:=by
 rcases h with h | ⟨o,its,n,hk,hc,hs,hz,r⟩
 ·obtain ⟨z,its,r,p⟩:=h.ok I.hok;exact ⟨its,r,p,z⟩
 ·refine ⟨its.toList,r,⟨o,I.kIn a o hk,hc,n,by simpa using hs⟩,?_⟩;have e:=r.length;simp only[Array.length_toList] at e
  lia
theorem Inv.list_inj (I:Inv X pins σ H s) (h:bL X.K H a xs) (h':bL X.K H a ys):xs=ys:=by
 obtain ⟨its,r,⟨o,n,e,_,_,d⟩,_⟩:=I.list h;obtain ⟨its',r',⟨o',n',e',_,_,d'⟩,_⟩:=I.list h';rw[e] at e';cases e';rw[d] at d';injection d' with d1 _
 have:its=its':=by simpa using congrArg Array.toList d1
 subst this;exact r.inj r'
theorem Inv.tuple_inj (I:Inv X pins σ H s) (h:mB X.K H a xs) (h':mB X.K H a ys):xs=ys:=by
 obtain ⟨its,r,⟨o,e,_,n,d⟩,_⟩:=I.tuple h;obtain ⟨its',r',⟨o',e',_,n',d'⟩,_⟩:=I.tuple h';rw[e] at e';cases e';rw[d] at d';injection d' with d1 _
 have:its=its':=by simpa using congrArg Array.toList d1
 subst this;exact r.inj r'
end
abbrev Cx.wish (X:Cx) (E:Value->Shared->Prop):Cx:={ X with xe:=E }
abbrev Cx.nox (X:Cx):Cx:=X.wish λ_ _=>False
theorem Cx.Ok.wish {X:Cx} (ok:X.Ok) (E:Value->Shared->Prop):(X.wish E).Ok :=
 ⟨ok.mod,ok.kind,ok.glob,ok.blt,ok.above,ok.inj,ok.has,ok.cab,ok.hd,ok.frames,ok.stk,ok.exf,ok.bs,ok.bsz,ok.noex,ok.exfs,ok.funs,ok.frf⟩
theorem Cx.Ok.unwish {X:Cx} (ok:(X.wish E).Ok):X.Ok :=
 ⟨ok.mod,ok.kind,ok.glob,ok.blt,ok.above,ok.inj,ok.has,ok.cab,ok.hd,ok.frames,ok.stk,ok.exf,ok.bs,ok.bsz,ok.noex,ok.exfs,ok.funs,ok.frf⟩
section
variable {X:Cx} {pins:List (Addr×Obj)} {σ:St} {H:Hp} {s:Shared} {E:Value->Shared->Prop}
theorem Inv.wish (I:Inv X pins σ H s) (E:Value->Shared->Prop):Inv (X.wish E) pins σ H s:=⟨I.ok.wish E,I.os,I.bare,I.base,I.loc,I.cell,I.free,I.freeC,I.pin,I.hok,I.len⟩
theorem Inv.unwish (I:Inv (X.wish E) pins σ H s):Inv X pins σ H s:=⟨I.ok.unwish,I.os,I.bare,I.base,I.loc,I.cell,I.free,I.freeC,I.pin,I.hok,I.len⟩
theorem SP.unwish (h:SP (X.wish E) pins D f s'):SP X pins D f s':=by
 cases f with
 | next=>obtain ⟨σ',H',I,q⟩:=h;exact ⟨σ',H',I.unwish,q⟩
 | brk=>obtain ⟨σ',H',I,q⟩:=h;exact ⟨σ',H',I.unwish,q⟩
 | cont=>obtain ⟨σ',H',I,q⟩:=h;exact ⟨σ',H',I.unwish,q⟩
 | ret u=>obtain ⟨v,σ',H',I,r,q⟩:=h;exact ⟨v,σ',H',I.unwish,r,q⟩
theorem CG.nox {st:List Stmt} (h:CG X.nox st t):CG X st t:=λpins s σ H D I hw =>
 wpAny_mono (h pins s σ H D (I.wish _) hw) (λ_ _ q=>q.unwish) λ_ _ z=>False.elim z
end
section
variable {X:Cx} {st:Stmt} {rest:List Stmt} {t u:TS} {e:Expr} {te:TE} {pos:Pos}
def JE:TS:=λD σ H=>D.nx σ H
def LJ (t u:TS):TS:=λD σ H=>t { D with nx:=u D } σ H
theorem bT:CG X [] JE:=λ_ _ σ H _ I h=>wpAny_execs_nil ⟨σ,H,I,h⟩
theorem ao (h1:PS X st t) (h2:CG X rest u):CG X (st :: rest) (LJ t u):=by
 intro pins s σ H D I h;refine wpAny_execs_cons (fB (h1 pins s σ H { D with nx:=u D } I h) λf s1 q=>?_);cases f with
 | next =>
  obtain ⟨σ',H',I',q⟩:=q;exact h2 pins s1 σ' H' D I' q
 | ret v=>exact q
 | brk=>exact q
 | cont=>exact q
theorem aw (h1:PS X st t):CG X [st] t:=by
 intro pins s σ H D I h;refine wpAny_execs_cons (fB (h1 pins s σ H D I h) λf s1 q=>?_);cases f with
 | next=>exact wpAny_execs_nil q
 | ret v=>exact q
 | brk=>exact q
 | cont=>exact q
theorem Inv.quiet {σ:St} (I:Inv X pins σ H s):interactive X.env=false:=by simp [interactive,I.ok.kind]
def JH (te:TE):TS:=λD σ H=>te σ H λ_ H1=>D.nx σ H1
theorem ir (he:PE X e te) (hs:swapsWith e none pos.line X.env=pure false:=by rfl):PS X (.Expr e pos) (JH te):=by
 intro pins s σ H D I h;exact wpAny_Expr_any (fB (he pins s σ H _ I h) λv s1 ⟨x,H1,I1,r1,q1⟩=>⟨σ,H1,I1,q1⟩) I.quiet hs
def LK (te:TE):TS:=λD σ H=>te σ H D.rt
theorem a8 (he:PE X e te):PS X (.Return (some e) pos) (LK te):=by
 intro pins s σ H D I h;exact wpAny_Return_some (fB (he pins s σ H _ I h) λv s1 ⟨x,H1,I1,r1,q1⟩=>⟨x,σ,H1,I1,r1,q1⟩)
def LP (c:TT) (t u:TS):TS:=λD σ H=>c σ H λb H1=>if b=true then t D σ H1 else u D σ H1
theorem c5 (hc:PT X c tc) (ha:CG X a t) (hb:CG X b u):PS X (.If c a b pos) (LP tc t u):=by
 intro pins s σ H D I h;refine wpAny_If (fB (hc pins s σ H _ I h) λd s1 ⟨H1,I1,q1⟩=>?_);cases d with
 | true=>exact ha pins s1 σ H1 D I1 q1
 | false=>exact hb pins s1 σ H1 D I1 q1
end
abbrev TG:=V->St->Hp->(St->Hp->Prop)->Prop
abbrev G7:=List V->St->Hp->(St->Hp->Prop)->Prop
def PG (X:Cx) (target:Expr) (t:TG):Prop :=
 ∀(pins:List (Addr×Obj)) (s:Shared) (σ:St) (H:Hp) (v:V) (u:Value) (Q:St->Hp->Prop),Inv X pins σ H s->RelV v u->t v σ H Q →
  wpAny (model X.prog X.w) X.A (assign target X.env u) (λ_ s'=>∃σ' H',Inv X pins σ' H' s'/\Q σ' H') X.xe s
def Mw (X:Cx) (ts:List Expr) (t:G7):Prop :=
 ∀(pins:List (Addr×Obj)) (s:Shared) (σ:St) (H:Hp) (vs:List V) (us:List Value) (Q:St->Hp->Prop),Inv X pins σ H s->cI vs us->t vs σ H Q →
  wpAny (model X.prog X.w) X.A (assignInOrder ((assignEach ts X.env).map (·.2)) us) (λ_ s'=>∃σ' H',Inv X pins σ' H' s'/\Q σ' H') X.xe s
abbrev CC:=V->V->V->Hp->(Hp->Prop)->Prop
def Lm (X:Cx) (t:CC):Prop :=
 ∀(pins:List (Addr×Obj)) (s:Shared) (σ:St) (H:Hp) (o i v:V) (ov iv u:Value) (Q:Hp->Prop),Inv X pins σ H s->RelV o ov->RelV i iv->RelV v u->t o i v H Q →
  wpAny (model X.prog X.w) X.A (setItem ov iv u) (λ_ s'=>∃H',Inv X pins σ H' s'/\Q H') X.xe s
abbrev Mv:=V->V->Hp->VK->Prop
def PIp (X:Cx) (op:Operator) (t:Mv):Prop :=
 ∀(pins:List (Addr×Obj)) (s:Shared) (σ:St) (H:Hp) (x y:V) (v u:Value) (Q:VK),Inv X pins σ H s->RelV x v->RelV y u->t x y H Q →
  wpAny (model X.prog X.w) X.A (inplaceOp op v u) (EP X pins σ Q) X.xe s
section
variable {X:Cx} {pos:Pos}
def DE (i:Nat):TG:=λv σ H Q=>Q (σ.set i (some v)) H
theorem aN {i:Nat} {x:Str} (hN:X.N.Nodup) (hi:X.N[i]?=some x:=by exact rfl) (hx:Loc X.env.scope x:=by exact Or.inl rfl) (hf:X.fn x=true\/X.env.scope.names.lookup x=some .local:=by first | exact .inl rfl | exact .inr rfl | assumption):PG X (.Name x pos) (DE i):=by
 intro pins s σ H v u Q I r h;exact wpAny_assign_Name (pZ I hN hi hx r (λs' I'=>⟨_,H,I',h⟩) hf)
def Mr:G7:=λvs σ H Q=>vs=[]/\Q σ H
def JW (t:TG) (u:G7):G7:=λvs σ H Q=>∃v r,vs=v :: r/\t v σ H λσ' H'=>u r σ' H' Q
theorem gK:Mw X [] Mr:=by
 intro pins s σ H vs us Q I r h;obtain ⟨e,h⟩:=h;subst e;cases r;exact assignInOrder_nil ⟨σ,H,I,h⟩
theorem cB {e:Expr} {es:List Expr} {t:TG} {u:G7} (h1:PG X e t) (h2:Mw X es u)
  (hs:(assignEach (e :: es) X.env).map (·.2)=assign e X.env :: (assignEach es X.env).map (·.2):=by rfl):Mw X (e :: es) (JW t u):=by
 intro pins s σ H vs us Q I r h;obtain ⟨v,vr,e1,h⟩:=h;subst e1;cases r with
 | cons r rr =>
  rw[hs];refine assignInOrder_cons (fB (h1 pins s σ H _ _ _ I r h) λ_ s1 ⟨σ1,H1,I1,q1⟩=>?_);exact h2 pins s1 σ1 H1 _ _ Q I1 rr q1
def Le (K:FG9) (n:Nat) (t:G7):TG:=λv σ H Q=>∃a xs,v=.ref a/\mB K H a xs/\xs.length=n/\t xs σ H Q
theorem rY {es:List Expr} {k:Nat} {t:G7} {n:Nat} (hc:X.calm=true) (h:Mw X es t)
  (hn:(assignEach es X.env).length=n:=by rfl) (hst:(assignEach es X.env).findIdx? (·.1)=none:=by rfl):PG X (.Tuple es k pos) (Le X.K n t):=by
 intro pins s σ H v u Q I r hw;obtain ⟨a,xs,e1,hq,hl,hw⟩:=hw;subst e1;cases r;obtain ⟨its,rv,ht,hz⟩:=I.tuple hq;refine assign_Tuple_tuple (I.ok.hd hc) ht (by simp [hn,<- hl,rv.length]) hst λh' hx=>?_
 have I1:Inv X pins σ H { s with heap:=h' }:=I.kept (t':=s.toks) λb o e=>hx b o (cC (Heap.lt_size e)) e
 exact h pins _ σ H xs _ Q I1 (by simpa using rv) hw
def Mq (to ti:TE) (t:CC):TG:=λv σ H Q=>to σ H λo H1=>ti σ H1 λi H2=>t o i v H2 λH3=>Q σ H3
theorem fN {o i : Expr} {to ti : TE} {t : CC} (ho : PE X o to) (hi : PE X i ti) (hs : Lm X t)
    (ha : ∀ v, assign (.Subscript o i pos) X.env v = (do
      let ov <- holding [v] (eval o X.env)
      let iv <- holding [v, ov] (eval i X.env)
      standAt pos
      holding [v, ov, iv] (setItem ov iv v)
      release [v, ov, iv] []) := by intro _; rfl) : PG X (.Subscript o i pos) (Mq to ti t) := by
  intro pins s σ H v u Q I r h;rw [ha];refine wpAny_bind (wpAny_holding (fB (ho pins s σ H _ I h) λov s1 ⟨x, H1, I1, r1, q1⟩ => ?_));refine wpAny_bind (wpAny_holding (fB (hi pins s1 σ H1 _ I1 q1) λiv s2 ⟨y, H2, I2, r2, q2⟩ => ?_));refine wpAny_bind (wpAny_standAt (wpAny_bind (wpAny_holding (fB (hs pins s2 σ H2 x y v ov iv u _ I2 r1 r2 r q2) λ_ s3 ⟨H3, I3, q3⟩ => ?_))));exact wpAny_release ⟨σ, H3, I3, q3⟩
def HY (te:TE) (g:TG):TS:=λD σ H=>te σ H λx H1=>g x σ H1 D.nx
theorem eQ {tg e:Expr} {te:TE} {g:TG} (he:PE X e te) (hg:PG X tg g) (hs:swapsWithSole [tg] e pos.line X.env=pure false:=by rfl) (hw:swappedStores [tg] e X.env=pure none:=by rfl)
  (h1:(assignEach [tg] X.env).map (·.2)=[assign tg X.env]:=by rfl):PS X (.Assign [tg] e pos) (HY te g):=by
 intro pins s σ H D I h;refine wpAny_Assign_stores (fB (he pins s σ H _ I h) λv s1 ⟨x,H1,I1,r1,q1⟩=>?_) hs hw;rw[h1];exact fB (hg pins s1 σ H1 x v _ I1 r1 q1) λ_ s2 q=>q
theorem aU {i:Nat} {x:Str} {e:Expr} {te:TE} {pos':Pos} (hN:X.N.Nodup) (hi:X.N[i]?=some x) (hx:Loc X.env.scope x) (he:PE X e te) (hs:swapsWith e (some (.Name x pos')) pos.line X.env=pure false:=by rfl) (hf:X.fn x=true\/X.env.scope.names.lookup x=some .local:=by first | exact .inl rfl | exact .inr rfl | assumption) :
  PS X (.Assign [.Name x pos'] e pos) (HY te (DE i)):=by
 intro pins s σ H D I h;refine wpAny_Assign_Name (fB (he pins s σ H _ I h) λv s1 ⟨y,H1,I1,r1,q1⟩=>?_) hs;exact pZ I1 hN hi hx r1 (λs2 I2=>⟨_,H1,I2,q1⟩) hf
def LL (i j:Nat) (ta:TA):TS:=λD σ H=>ta σ H λvs H1=>∃v w,vs=[v,w]/\D.nx ((σ.set i (some v)).set j (some w)) H1
theorem FK {i j:Nat} {x y:Str} {a b:Expr} {ta:TA} {px py pt:Pos} {kt k2 pt2} (hc:X.calm=true) (hN:X.N.Nodup) (hi:X.N[i]?=some x) (hj:X.N[j]?=some y) (hij:i≠j)
  (hx:X.env.scope.names.lookup x=some .local) (hy:X.env.scope.names.lookup y=some .local) (ha:PA X [a,b] ta)
  (hw:swappedStores [.Tuple [.Name x px,.Name y py] kt pt] (.Tuple [a,b] k2 pt2) X.env=pure (some [x,y]))
  (hs:swapsWithSole [.Tuple [.Name x px,.Name y py] kt pt] (.Tuple [a,b] k2 pt2) pos.line X.env=pure false:=by rfl) :
  PS X (.Assign [.Tuple [.Name x px,.Name y py] kt pt] (.Tuple [a,b] k2 pt2) pos) (LL i j ta):=by
 intro pins s σ H D I h;rw[exec_Assign_arm];refine wpAny_bind (wpAny_standAt ?_);rw[hs];refine wpAny_bind (wpAny_pure ?_);rw[if_neg (by decide)];refine wpAny_bind (Tuple_ (fB (ha _ pins s σ H _ I h) λus s1 ⟨vs,H1,I1,r1,q1⟩=>?_));obtain ⟨v,w,e1,q1⟩:=q1;subst e1
 obtain ⟨u1,u2,rfl,rv,rw'⟩:∃u1 u2,us=[u1,u2]/\RelV v u1/\RelV w u2:=by
  cases r1 with
  | cons p q =>
   cases q with
   | cons p' q' =>
    cases q';exact ⟨_,_,rfl,p,p'⟩
 refine wpAny_newObj_type ?_ (by show 2<=sizeLine;decide);have I2:Inv X pins σ H1 { s1 with heap:=s1.heap.push { cls:=.type "tuple",data:=.seq [u1,u2].toArray } }:=I1.kept (t':=s1.toks) λb o e=>Heap.get?_push_of_some _ e
 rw[hw];refine wpAny_bind (wpAny_pure ?_);show wpAny (model X.prog X.w) X.A (do rule "assign.swapped-stores";let items <- unpackItems (.ref s1.heap.objs.size) 2 none;assignInOrder [λv=>bindName X.env y v,λv=>bindName X.env x v] items.reverse;pure Flow.next) _ _ _
 refine wpAny_bind (wpAny_rule (wpAny_bind (unpackItems_tuple (items:=#[u1,u2]) (I.ok.hd hc) (IsTup.new s1.heap _) λh' hx'=>?_)));have I3:=I2.kept (h':=h') (t':=s1.toks) λb o e=>hx' b o (cC (Heap.lt_size e)) e
 show wpAny _ _ (assignInOrder [λv=>bindName X.env y v,λv=>bindName X.env x v] [u2,u1] >>= λ_=>pure Flow.next) _ _ _
 refine wpAny_bind (assignInOrder_cons (wpAny_bindName (pZ I3 hN hj (.inl hy) rw' (λs2 I4=>?_) (.inr hy))));refine assignInOrder_cons (wpAny_bindName (pZ I4 hN hi (.inl hx) rv (λs3 I5=>assignInOrder_nil (wpAny_pure ?_)) (.inr hx)));rw[List.set_comm _ _ (Ne.symm hij)] at I5;exact ⟨_,H1,I5,q1⟩
def JI (to ti te:TE) (tget:V->V->Hp->VK->Prop) (tip:Mv) (tset:CC):TS:=λD σ H=>to σ H λo H1=>ti σ H1 λi H2=>tget o i H2 λx H3=>te σ H3 λy H4=>tip x y H4 λz H5=>tset o i z H5 λH6=>D.nx σ H6
def Mx (X:Cx) (t:V->V->Hp->VK->Prop):Prop :=
 ∀(pins:List (Addr×Obj)) (s:Shared) (σ:St) (H:Hp) (o i:V) (ov iv:Value) (Q:VK),Inv X pins σ H s->RelV o ov->RelV i iv->t o i H Q →
  wpAny (model X.prog X.w) X.A (getItem ov iv) (EP X pins σ Q) X.xe s
theorem IQ {o i e:Expr} {to ti te:TE} {tget:V->V->Hp->VK->Prop} {tip:Mv} {tset:CC} {op:Operator} {tpos:Pos} (ho:PE X o to) (hi:PE X i ti) (hg:Mx X tget) (he:PE X e te) (hp:PIp X op tip) (hs:Lm X tset)
  (ha:∀ov iv new,augStore i ov iv new=(do holding [new,ov,iv] (setItem ov iv new);release [new,ov,iv] [];pure .next):=by intros;rfl):PS X (.AugAssign (.Subscript o i tpos) op e pos) (JI to ti te tget tip tset):=by
 intro pins s σ H D I h;refine wpAny_AugAssign_SubscriptAny (fB (ho pins s σ H _ I h) λov s1 ⟨x1,H1,I1,r1,q1⟩=>?_) ha;refine fB (hi pins s1 σ H1 _ I1 q1) λiv s2 ⟨x2,H2,I2,r2,q2⟩=>?_
 refine fB (hg pins s2 σ H2 x1 x2 ov iv _ I2 r1 r2 q2) λold s3 ⟨x3,H3,I3,r3,q3⟩=>?_
 refine fB (he pins s3 σ H3 _ I3 q3) λv s4 ⟨x4,H4,I4,r4,q4⟩=>?_
 refine fB (hp pins s4 σ H4 x3 x4 old v _ I4 r3 r4 q4) λnew s5 ⟨x5,H5,I5,r5,q5⟩=>?_
 exact fB (hs pins s5 σ H5 x1 x2 x5 ov iv new _ I5 r1 r2 r5 q5) λ_ s6 ⟨H6,I6,q6⟩=>⟨σ,H6,I6,q6⟩
def ipI (f:Int->Int->Int):Mv:=λx y H Q=>∃i j,x=.int i/\y=.int j/\Q (.int (f i j)) H
theorem K8:PIp X .Add (ipI λi j=>i+j):=by
 intro pins s σ H x y v u Q I r1 r2 h;obtain ⟨i,j,e1,e2,q⟩:=h;subst e1;subst e2;obtain ⟨t,rfl⟩:=r1;obtain ⟨t',rfl⟩:=r2;exact iadd_int ⟨.int _,H,I.tok _,⟨_,rfl⟩,q⟩
end
section
variable {X:Cx} {pos:Pos}
def Fm (c:TT) (tb:TS):TS:=λD σ H=>∃W:Nat->St->Hp->Prop,(∃m,W m σ H)/\∀m σ H,W m σ H →
 c σ H λb H1=>if b=true then ∃N:St->Hp->Prop,(∀σ' H',N σ' H'->∃m',m' < m/\W m' σ' H')/\tb { D with nx:=N,ct:=N,bk:=D.nx } σ H1 else D.nx σ H1
theorem AG (hp:PassesOwn (model X.prog X.w) X.A X.env X.xe) (hc:PT X c tc) (hb:CG X body tb):PS X (.While c body [] pos) (Fm tc tb):=by
 intro pins s σ H D I h;obtain ⟨W,⟨m0,w0⟩,turn⟩:=h;refine wpAny_While (codeAny_whileLoop (λn s'=>∃σ' H',Inv X pins σ' H' s'/\W n σ' H') ?_ m0 ⟨σ,H,I,w0⟩);rintro n s1 ⟨σ1,H1,I1,w1⟩;refine wpAny_passesOwn hp (fB (hc pins s1 σ1 H1 _ I1 (turn n σ1 H1 w1)) λb s2 ⟨H2,I2,q2⟩=>?_);cases b with
 | true =>
  obtain ⟨N,hN,q2⟩:=q2;rw[if_pos rfl];refine wpAny_passesOwn hp (fB (hb pins s2 σ1 H2 _ I2 q2) λf s3 q3=>?_);cases f with
  | next =>
   obtain ⟨σ3,H3,I3,n3⟩:=q3;obtain ⟨m',hm,w3⟩:=hN σ3 H3 n3;exact ⟨m',hm,σ3,H3,I3,w3⟩
  | cont =>
   obtain ⟨σ3,H3,I3,n3⟩:=q3;obtain ⟨m',hm,w3⟩:=hN σ3 H3 n3;exact ⟨m',hm,σ3,H3,I3,w3⟩
  | brk=>exact q3
  | ret v=>exact q3
 | false =>
  rw[if_neg aY];exact wpAny_execs_nil ⟨σ1,H2,I2,q2⟩
end
structure It where
 go:Nat->Hp->Prop
 yld:Nat->Hp->V->Hp->Prop
 stop:Nat->Hp->Prop
def ja (X:Cx) (pins:List (Addr×Obj)) (H:Hp) (b:Addr):Prop :=
 H b=none/\b≠X.env.locals/\b∉X.fs/\(b∈X.ex\/X.s₀.heap.objs.size<=b)/\(∀x c,X.env.cells.lookup x=some c->c≠b)/\∀p∈X.pn++pins,p.1≠b
theorem Inv.fpOk {σ:St} {b:Addr} (I:Inv X pins σ H s) (hb:s.heap.objs.size<=b) (hn:H' b=none):ja X pins H' b:=by
 refine ⟨hn,D7 (bc I.lt hb),I.nofs hb,.inr (ai I.sz hb),λx c e z=>?_,λp hp z=>?_⟩
 ·obtain ⟨v,q⟩:=I.cell x c e;exact absurd (bc q.lt (by rw[z];exact hb)) (dY _)
 ·exact absurd (bc (Heap.lt_size (I.pin p hp).1) (by rw[z];exact hb)) (dY _)
structure Turn (P:Program) (w:World) (K:FG9) (tg:Expr) (J:It) (fp:List Addr) (it:Addr) (tn:Nat->Heap->Prop):Prop where
 mem:it∈fp
 obj:∀i h,tn i h->∀b∈fp,∃o,h.get? b=some o/\∀v,o.data≠.cell v
 keep:∀i h h',tn i h->(∀b∈fp,∀o,h.get? b=some o->h'.get? b=some o)->tn i h'
 item:∀(X:Cx),X.prog=P->X.w=w->X.K=K->X.calm=true->∀(i:Nat) (pins:List (Addr×Obj)) (s:Shared) (σ:St) (H:Hp) (E:Value->Shared->Prop),Inv X pins σ H s->(∀b∈fp,ja X pins H b)->tn i s.heap->J.go i H →
  wpAny (model P w) X.A (pyNext (.ref it)) (λr s1=>∃u,r=some u /\
   wpAny (model P w) X.A (letOwnedTupleGo tg (.ref it) u) (λ_ s2=>∃x H',Inv X pins σ H' s2/\RelV x u/\J.yld i H x H'/\tn (i+1) s2.heap/\∀b∈fp,H' b=none) E s1) E s
 done:∀(X:Cx),X.prog=P->X.w=w->X.K=K->X.calm=true->∀(i:Nat) (pins:List (Addr×Obj)) (s:Shared) (σ:St) (H:Hp) (E:Value->Shared->Prop),Inv X pins σ H s->(∀b∈fp,ja X pins H b)->tn i s.heap->J.stop i H →
  wpAny (model P w) X.A (pyNext (.ref it)) (λr s1=>r=none/\Inv X pins σ H s1) E s
 self:∀(A:Around) (i:Nat) (s:Shared) (Q:Value->Shared->Prop) (E:Value->Shared->Prop),tn i s.heap->Q (.ref it) s->wpAny (model P w) A (pyIter (.ref it)) Q E s
abbrev TI:=St->Hp->(It->Hp->Prop)->Prop
def PIE (X:Cx) (pins:List (Addr×Obj)) (σ:St) (tg:Expr) (R:It->Hp->Prop) (itv:Value) (s2:Shared):Prop :=
 ∃(it:Addr) (fp:List Addr) (tn:Nat->Heap->Prop) (J:It) (H':Hp),itv=.ref it/\Inv X pins σ H' s2/\Turn X.prog X.w X.K tg J fp it tn/\tn 0 s2.heap/\(∀b∈fp,ja X pins H' b)/\R J H'
def PI (X:Cx) (tg iter:Expr) (wi:TI):Prop :=
 ∀(pins:List (Addr×Obj)) (s:Shared) (σ:St) (H:Hp) (R:It->Hp->Prop),Inv X pins σ H s->wi σ H R →
  wpAny (model X.prog X.w) X.A (eval iter X.env) (λv s1=>wpAny (model X.prog X.w) X.A (pyIter v) (PIE X pins σ tg R) X.xe s1) X.xe s
theorem Gf (ho:s.heap.get? it=some o) (hc:o.cls=.type n) (hd:o.data=.fields vs)
  (hn:["enumerate","zip","dict_itemiterator","dict_reverseitemiterator","odict_iterator","itertools.zip_longest","itertools.pairwise"].contains n=false) (hQ:Q () s):wpAny M A (letOwnedTupleGo tg (.ref it) u) Q E s:=by
 unfold letOwnedTupleGo
 cases tg <;> first
  | exact wpAny_pure hQ
  | (cases u <;> first | exact wpAny_pure hQ | (refine wpAny_bind (wpAny_load ho ?_);rw[hc,hd];show wpAny M A (if (["enumerate","zip","dict_itemiterator","dict_reverseitemiterator","odict_iterator","itertools.zip_longest","itertools.pairwise"].contains n && vs[0]? == some (rawInt _))=true then _ else _) Q E s;rw[if_neg (by intro h;rw[hn,Bool.false_and] at h;cases h)];exact wpAny_pure hQ))
def JA (K:FG9) (a:Addr):It :=
 ⟨λi H=>∃xs x,bL K H a xs/\xs[i]?=some x,λi H x H'=>H'=H/\∀xs,bL K H a xs->xs[i]?=some x,λi H=>∃xs,bL K H a xs/\xs.length<=i⟩
def Bv (lo:Int) (n:Nat):It:=⟨λi _=>i < n,λi H x H'=>H'=H/\x=.int (lo+i),λi _=>n<=i⟩
theorem Ef {P:Program} {w:World} {K:FG9} {tg:Expr} (a it:Addr):Turn P w K tg (JA K a) [it] it (λi h=>h.IsListIter it a i) where
 mem:=by simp
 obj:=λi h st b hb=>by
  have e:b=it:=by simpa using hb
  subst e;obtain ⟨o,e,c,d⟩:=st;exact ⟨o,e,λv z=>by rw[d] at z;cases z⟩
 keep:=λi h h' st k=>st.at λo e=>k it (by simp) o e
 item:=by
  intro X hP hw hK hc i pins s σ H E I hf st hg;subst hP hw hK;obtain ⟨xs,x,hq,hx⟩:=hg;obtain ⟨its,rv,p,hz⟩:=I.list hq;obtain ⟨u,hu,ru⟩:=rv.get hx;obtain ⟨f0,f1,f2,f3,f4,f5⟩:=hf it (by simp);refine wpAny_pyNext_list_item st p.isList (x:=u) (by simpa using hu) λh' st' sb=>?_
  have I1:Inv X pins σ H { s with heap:=h' }:=I.turned (t':=s.toks) (λb o hb e=>(sb.2 b hb).trans e) f0 f1 f3 f4 f5;obtain ⟨o,e,c,d⟩:=id st';exact ⟨u,rfl,Gf (s:={ s with heap:=h' }) e c d (by decide) ⟨x,H,I1,ru,⟨rfl,λys hy=>by rw[I.list_inj hy hq];exact hx⟩,st',λb hb=>(hf b hb).1⟩⟩
 done:=by
  intro X hP hw hK hc i pins s σ H E I hf st hg;subst hP hw hK;obtain ⟨xs,hq,hx⟩:=hg;obtain ⟨its,rv,p,hz⟩:=I.list hq;obtain ⟨f0,f1,f2,f3,f4,f5⟩:=hf it (by simp);have hl:=rv.length;exact wpAny_pyNext_list_end (I.ok.hd hc) st p.isList (by simp;lia) λh' eb=>⟨rfl,I.turned (t':=s.toks) (λb o hb e=>eb b o hb e) f0 f1 f3 f4 f5⟩
 self:=λ_ _ _ _ _ st h=>wpAny_pyIter_listiter st h
theorem BG {P:Program} {w:World} {K:FG9} {tg:Expr} (it:Addr) (lo:Int) (n:Nat):Turn P w K tg (Bv lo n) [it] it (λi h=>IsRangeIter h it (lo+(i:Nat)*1) ((n:Int) - (i:Nat)) 1) where
 mem:=by simp
 obj:=λi h st b hb=>by
  have e:b=it:=by simpa using hb
  subst e
  exact ⟨_,st,λv z=>by
   have z':Data.fields _=Data.cell v:=z;cases z'⟩
 keep:=λi h h' st k=>k it (by simp) _ st
 item:=by
  intro X hP hw hK hc i pins s σ H E I hf st hg;subst hP hw hK;obtain ⟨f0,f1,f2,f3,f4,f5⟩:=hf it (by simp);have W:=Walks.range (prog:=X.prog) (w:=X.w) (I.ok.hd hc) it lo 1 n;refine W.item i s _ _ hg st λv h' tk hv st' kk=>?_
  obtain ⟨t,rfl⟩:=hv;have I1:Inv X pins σ H { s with heap:=h',toks:=tk }:=I.turned (λb o hb e=>kk b o (by simpa using hb) e) f0 f1 f3 f4 f5;refine ⟨_,rfl,Gf (s:={ s with heap:=h',toks:=tk }) (n:="range_iterator") st' rfl rfl (by decide) ⟨.int (lo+i),H,I1,⟨t,?_⟩,⟨rfl,rfl⟩,st',λb hb=>(hf b hb).1⟩⟩;rw[Int.mul_one]
 done:=by
  intro X hP hw hK hc i pins s σ H E I hf st hg;subst hP hw hK;obtain ⟨f0,f1,f2,f3,f4,f5⟩:=hf it (by simp);exact wpAny_pyNext_range_end (I.ok.hd hc) st (by have:n<=i:=hg;lia) λh' eb=>⟨rfl,I.turned (t':=s.toks) (λb o hb e=>eb b o hb e) f0 f1 f3 f4 f5⟩
 self:=λ_ _ _ _ _ st h=>wpAny_pyIter_rangeiter st h
section
variable {X:Cx} {tg:Expr}
def Gd (K:FG9) (tl:TE):TI:=λσ H R=>tl σ H λx H1=>∃a,x=.ref a/\(∃xs,bL K H1 a xs)/\R (JA K a) H1
theorem cw (hl:PE X l tl):PI X tg l (Gd X.K tl):=by
 intro pins s σ H R I h;refine fB (hl pins s σ H _ I h) λv s1 ⟨x,H1,I1,r1,q1⟩=>?_
 obtain ⟨a,e,⟨xs,hq⟩,q⟩:=q1;subst e;cases r1;obtain ⟨its,rv,p,hz⟩:=I1.list hq;refine wpAny_pyIter_list p.isList ?_;refine ⟨s1.heap.objs.size,[s1.heap.objs.size],_,_,H1,rfl,I1.kept (t':=s1.toks) λb o e=>Heap.get?_push_of_some _ e,Ef a _,⟨_,Heap.get?_push_size _ rfl,rfl,rfl⟩,λb hb=>?_,q⟩;have e:b=s1.heap.objs.size:=by simpa using hb
 subst e;exact I1.fpOk (av _) (I1.hok.fresh (av _))
theorem AE {σ:St} {lo hi:Int} (I:Inv X pins σ H s) (h1:-(2^62)<=lo) (h2:lo < 2^62) (h3:-(2^62)<=hi) (h4:hi < 2^62)
  (q:R (Bv lo (hi - lo).toNat) H):wpAny (model X.prog X.w) X.A (pyIter (.ref s.heap.objs.size)) (PIE X pins σ tg R) E { s with heap:=s.heap.push { cls:=.type "range",data:=.fields #[.int lo t,.int hi u,.int 1 v] },toks:=tk }:=by
 refine wpAny_pyIter_range (IsRange.new ..) (small_one h1 h2 h3 h4) ?_;have I1:Inv X pins σ H { s with heap:=s.heap.push { cls:=.type "range",data:=.fields #[.int lo t,.int hi u,.int 1 v] },toks:=tk }:=I.kept λb o e=>Heap.get?_push_of_some _ e
 refine ⟨(s.heap.push { cls:=.type "range",data:=.fields #[.int lo t,.int hi u,.int 1 v] }).objs.size,[(s.heap.push { cls:=.type "range",data:=.fields #[.int lo t,.int hi u,.int 1 v] }).objs.size],_,_,H,rfl,
  I1.kept (t':=tk) λb o e=>Heap.get?_push_of_some _ e,BG _ lo (hi - lo).toNat,?_,λb hb=>?_,q⟩
 ·have e1:lo+((0:Nat):Int)*1=lo:=by simp
  have e2:(((hi - lo).toNat:Nat):Int) - ((0:Nat):Int)=Builtin.Range.rangeSize lo hi 1:=by rw[rangeSize_one];split <;> lia
  show IsRangeIter _ _ (lo+((0:Nat):Int)*1) ((((hi - lo).toNat:Nat):Int) - ((0:Nat):Int)) 1
  rw[e1,e2];exact Heap.get?_push_size _ rfl
 ·have e:b=(s.heap.push { cls:=.type "range",data:=.fields #[.int lo t,.int hi u,.int 1 v] }).objs.size:=by simpa using hb
  subst e;exact I1.fpOk (av _) (I1.hok.fresh (av _))
def JT (ta:TA):TI:=λσ H R=>ta σ H λvs H1=>∃j:Int,vs=[.int j]/\-(2^62)<=j/\j < 2^62/\R (Bv 0 j.toNat) H1
def JS (ta:TA):TI:=λσ H R=>ta σ H λvs H1=>∃i j:Int,vs=[.int i,.int j]/\(-(2^62)<=i/\i < 2^62/\-(2^62)<=j/\j < 2^62)/\R (Bv i (j - i).toNat) H1
theorem cg {a:Expr} {ta:TA} {p pos:Pos} (hg:Gl X "range") (hm:X.mg "range"=none) (ha:PA X [a] ta) (hs:starEach [a] X.env=[(false,eval a X.env)]:=by rfl):PI X tg (.Call (.Name "range" p) [a] [] pos) (JT ta):=by
 intro pins s σ H R I h;refine Call_ (jv I hg hm boot_range (PyProof.Rows.callWith_type1 (fB (ha pos pins s σ H _ I h) λus s1 ⟨vs,H1,I1,r1,q1⟩=>?_) hs rfl));obtain ⟨j,e,q1,q2,q⟩:=q1;subst e;cases r1 with
 | cons r rr =>
  cases rr;obtain ⟨t,rfl⟩:=r;exact call_range_1 (AE I1 (by lia) (by lia) q1 q2 (by simpa using q))
theorem Ex {a b:Expr} {ta:TA} {p pos:Pos} (hg:Gl X "range") (hm:X.mg "range"=none) (ha:PA X [a,b] ta) (hs:starEach [a,b] X.env=[(false,eval a X.env),(false,eval b X.env)]:=by rfl) (hs2:starEach [b] X.env=[(false,eval b X.env)]:=by rfl) :
  PI X tg (.Call (.Name "range" p) [a,b] [] pos) (JS ta):=by
 intro pins s σ H R I h;refine Call_ (jv I hg hm boot_range (PyProof.Rows.callWith_type1 (fB (ha pos pins s σ H _ I h) λus s1 ⟨vs,H1,I1,r1,q1⟩=>?_) (by rw[hs,hs2]) (by rw[hs2];rfl)));obtain ⟨i,j,e,⟨q1,q2,q3,q4⟩,q⟩:=q1;subst e;cases r1 with
 | cons r rr =>
  cases rr with
  | cons r' rr =>
   cases rr;obtain ⟨t,rfl⟩:=r;obtain ⟨t',rfl⟩:=r';exact call_range_2 (AE I1 q1 q2 q3 q4 q)
def LQ (wi:TI) (g:TG) (tb:TS):TS:=λD σ H=>wi σ H λJ H1=>∃W:Nat->Nat->St->Hp->Prop,(∃m,W 0 m σ H1)/\∀i m σ H,W i m σ H →
 (J.stop i H/\D.nx σ H)\/(J.go i H/\∃N:St->Hp->Prop,(∀σ' H',N σ' H'->∃m',m' < m/\W (i+1) m' σ' H')/\∀x H',J.yld i H x H'->g x σ H' λσ2 H2=>tb { D with nx:=N,ct:=N,bk:=D.nx } σ2 H2)
def vQ (fp:List Addr) (h:Heap):List (Addr×Obj):=fp.filterMap λb=>(h.get? b).map λo=>(b,o)
theorem mh (hb:b∈fp) (e:h.get? b=some o):(b,o)∈vQ fp h:=List.mem_filterMap.mpr ⟨b,hb,by rw[e];rfl⟩
theorem EE (hp:p∈vQ fp h):p.1∈fp/\h.get? p.1=some p.2:=by
 obtain ⟨b,hb,e⟩:=List.mem_filterMap.mp hp;cases q:h.get? b with
 | none=>rw[q] at e;cases e
 | some o =>
  rw[q] at e;have e':(b,o)=p:=bY e;subst e';exact ⟨hb,q⟩
theorem Inv.pinned {σ:St} (I:Inv X pins σ H s) (hf:∀b∈fp,ja X pins H b) (ho:∀b∈fp,∃o,s.heap.get? b=some o/\∀v,o.data≠.cell v):Inv X (pins++vQ fp s.heap) σ H s :=
 I.pins_of λp hp=>(az.mp hp).elim (λz=>I.pin p (bE _ z)) λz=>by
  obtain ⟨hb,e⟩:=EE z;obtain ⟨f0,f1,f2,_⟩:=hf p.1 hb;obtain ⟨o,e',d⟩:=ho p.1 hb;rw[e] at e';cases e';exact ⟨e,f0,f1,f2,d⟩
theorem Inv.unpinned {σ:St} (I:Inv X (pins++pl) σ H s):Inv X pins σ H s:=I.pins_of λp hp=>I.pin p (bE _ (d5 _ hp))
theorem dU {iter:Expr} {body:List Stmt} {wi:TI} {g:TG} {tb:TS} {pos:Pos} (hp:PassesOwn (model X.prog X.w) X.A X.env X.xe) (hc:X.calm=true) (hi:PI X tg iter wi) (hg:PG X tg g) (hb:CG X body tb)
  (hs:∀x,foldedSetIterable iter X.env x=pure x:=by intro _;rfl):PS X (.For tg iter body [] pos) (LQ wi g tb):=by
 intro pins s σ H D I h;refine wpAny_For (fB (hi pins s σ H _ I h) λv s1 h1=>fB h1 λitv s2 h2=>?_) hs;obtain ⟨it,fp,tn,J,H2,e,I2,T,st2,f2,W,⟨m0,w0⟩,turn⟩:=h2;subst e;have stat:∀{H':Hp},(∀b∈fp,H' b=none)->∀b∈fp,ja X pins H' b:=λhn b hb=>⟨hn b hb,(f2 b hb).2⟩
 refine codeAny_forLoop_any (λn s'=>∃i σ' H',Inv X pins σ' H' s'/\tn i s'.heap/\(∀b∈fp,H' b=none)/\W i n σ' H') ?_ m0 ⟨0,σ,H2,I2,st2,λb hb=>(f2 b hb).1,w0⟩;rintro n s3 ⟨i,σ3,H3,I3,st3,fr3,w3⟩;rcases turn i n σ3 H3 w3 with ⟨stop,qn⟩ | ⟨go,N,hN,step⟩
 ·refine wpAny_passesOwn hp (fB (T.done X rfl rfl rfl hc i pins s3 σ3 H3 X.xe I3 (stat fr3) st3 stop) λr s4 ⟨hr,I4⟩=>?_);subst hr;exact wpAny_execs_nil ⟨σ3,H3,I4,qn⟩
 ·refine wpAny_passesOwn hp (fB (T.item X rfl rfl rfl hc i pins s3 σ3 H3 X.xe I3 (stat fr3) st3 go) λr s4 ⟨u,hr,h4⟩=>?_);subst hr;refine wpAny_passesOwn hp (fB h4 λ_ s5 ⟨x,H5,I5,r5,y5,st5,fr5⟩=>?_);have I5':=I5.pinned (stat fr5) (T.obj _ _ st5);refine wpAny_passesOwn hp (fB (hg _ s5 σ3 H5 x u _ I5' r5 (step x H5 y5)) λ_ s6 ⟨σ6,H6,I6,q6⟩=>?_);refine wpAny_passesOwn hp (fB (hb _ s6 σ6 H6 _ I6 q6) λf s7 q7=>?_)
  have again:∀{σ7:St} {H7:Hp},Inv X (pins++vQ fp s5.heap) σ7 H7 s7->N σ7 H7->∃m,m < n/\∃i σ' H',Inv X pins σ' H' s7/\tn i s7.heap/\(∀b∈fp,H' b=none)/\W i m σ' H':=λ{σ7 H7} I7 n7=>by
   obtain ⟨m',hm,w7⟩:=hN σ7 H7 n7;refine ⟨m',hm,i+1,σ7,H7,I7.unpinned,T.keep _ _ _ st5 λb hb o e=>(I7.pin (b,o) (bE _ (bE _ (mh hb e)))).1,λb hb=>?_,w7⟩;obtain ⟨o,e,d⟩:=T.obj _ _ st5 b hb;exact (I7.pin (b,o) (bE _ (bE _ (mh hb e)))).2.1
  cases f with
  | next=>obtain ⟨σ7,H7,I7,n7⟩:=q7;exact again I7 n7
  | cont=>obtain ⟨σ7,H7,I7,n7⟩:=q7;exact again I7 n7
  | brk=>obtain ⟨σ7,H7,I7,q7⟩:=q7;exact ⟨σ7,H7,I7.unpinned,q7⟩
  | ret v=>obtain ⟨x7,σ7,H7,I7,r7,q7⟩:=q7;exact ⟨x7,σ7,H7,I7.unpinned,r7,q7⟩
end
theorem iH {K:FG9} {g:TG} {tb:TS} {D:Ends} (Pv:Nat->St->Hp->Prop) (h0:Pv 0 σ H) (hl:∀i σ H,i<=xs.length->Pv i σ H->bL K H a xs)
  (hs:∀i x σ H,xs[i]?=some x->Pv i σ H->g x σ H λσ2 H2=>tb { D with nx:=Pv (i+1),ct:=Pv (i+1),bk:=D.nx } σ2 H2) (hd:∀σ H,Pv xs.length σ H->D.nx σ H) :
  ∃W:Nat->Nat->St->Hp->Prop,(∃m,W 0 m σ H)/\∀i m σ H,W i m σ H →
   ((JA K a).stop i H/\D.nx σ H)\/((JA K a).go i H/\∃N:St->Hp->Prop,(∀σ' H',N σ' H'->∃m',m' < m/\W (i+1) m' σ' H')/\∀x H',(JA K a).yld i H x H'->g x σ H' λσ2 H2=>tb { D with nx:=N,ct:=N,bk:=D.nx } σ2 H2):=by
 refine ⟨λi m σ H=>m=xs.length - i/\i<=xs.length/\Pv i σ H,⟨xs.length,by simp,bJ _,h0⟩,?_⟩;rintro i m σ H ⟨rfl,hi,p⟩;have q:=hl i σ H hi p;by_cases hlt:i < xs.length
 ·refine .inr ⟨⟨xs,xs[i],q,by simp [hlt]⟩,Pv (i+1),λσ' H' p'=>⟨xs.length - (i+1),by lia,rfl,hlt,p'⟩,λx H' y=>?_⟩;obtain ⟨e,y⟩:=y;subst e;exact hs i x σ _ (y xs q) p
 ·have e:i=xs.length:=by lia
  subst e;exact .inl ⟨⟨xs,q,av _⟩,hd σ H p⟩
theorem yj {lo:Int} {g:TG} {tb:TS} {D:Ends} (Pv:Nat->St->Hp->Prop) (h0:Pv 0 σ H)
  (hs:∀i σ H,i < n->Pv i σ H->g (.int (lo+i)) σ H λσ2 H2=>tb { D with nx:=Pv (i+1),ct:=Pv (i+1),bk:=D.nx } σ2 H2) (hd:∀σ H,Pv n σ H->D.nx σ H) :
  ∃W:Nat->Nat->St->Hp->Prop,(∃m,W 0 m σ H)/\∀i m σ H,W i m σ H →
   ((Bv lo n).stop i H/\D.nx σ H)\/((Bv lo n).go i H/\∃N:St->Hp->Prop,(∀σ' H',N σ' H'->∃m',m' < m/\W (i+1) m' σ' H')/\∀x H',(Bv lo n).yld i H x H'->g x σ H' λσ2 H2=>tb { D with nx:=N,ct:=N,bk:=D.nx } σ2 H2):=by
 refine ⟨λi m σ H=>m=n - i/\i<=n/\Pv i σ H,⟨n,by simp,bJ _,h0⟩,?_⟩;rintro i m σ H ⟨rfl,hi,p⟩;by_cases hlt:i < n
 ·refine .inr ⟨hlt,Pv (i+1),λσ' H' p'=>⟨n - (i+1),by lia,rfl,hlt,p'⟩,λx H' y=>?_⟩;obtain ⟨e,y⟩:=y;subst e y;exact hs i σ _ hlt p
 ·have e:i=n:=by lia
  subst e;exact .inl ⟨av _,hd σ H p⟩
abbrev R2:=V->V->Hp->VK->Prop
def xi (X:Cx) (f:Value->Value->Sem Value) (r:R2):Prop :=
 ∀(pins:List (Addr×Obj)) (s:Shared) (σ:St) (H:Hp) (x y:V) (v u:Value) (Q:VK),Inv X pins σ H s->RelV x v->RelV y u->r x y H Q →
  wpAny (model X.prog X.w) X.A (f v u) (EP X pins σ Q) X.xe s
def Nj (X:Cx) (f:Value->Sem Value) (r:V->Hp->VK->Prop):Prop :=
 ∀(pins:List (Addr×Obj)) (s:Shared) (σ:St) (H:Hp) (x:V) (v:Value) (Q:VK),Inv X pins σ H s->RelV x v->r x H Q →
  wpAny (model X.prog X.w) X.A (f v) (EP X pins σ Q) X.xe s
def mJ (X:Cx) (f:Value) (r:List V->Hp->VK->Prop):Prop :=
 ∀(pins:List (Addr×Obj)) (s:Shared) (σ:St) (H:Hp) (xs:List V) (us:List Value) (Q:VK),Inv X pins σ H s->cI xs us->r xs H Q →
  wpAny (model X.prog X.w) X.A (call f us) (EP X pins σ Q) X.xe s
def LM (r:R2) (ta tb:TE):TE:=λσ H Q=>ta σ H λx H1=>tb σ H1 λy H2=>r x y H2 Q
def MI (r:V->Hp->VK->Prop) (ta:TE):TE:=λσ H Q=>ta σ H λx H1=>r x H1 Q
def rI (C:Int->Int->Prop) (g:Int->Int->V):R2:=λx y H Q=>∃i j,x=.int i/\y=.int j/\C i j/\Q (g i j) H
def JL (g:Int->Int->V):R2:=λx y H Q=>∃i j,x=.int i/\y=.int j/\Q (g i j) H
def rU (g:Int->V):V->Hp->VK->Prop:=λx H Q=>∃i,x=.int i/\Q (g i) H
section
variable {X:Cx} {a b c:Expr} {ta tb tc:TE} {pos:Pos}
theorem Ll (ha:PE X a ta) (hb:PE X b tb) {σ:St} {R:V->V->Hp->Prop} (I:Inv X pins σ H s)
  (h:ta σ H λx H1=>tb σ H1 λy H2=>R x y H2) {f:Value->Value->Sem Value}
  (hf:∀v u s2 x y H2,Inv X pins σ H2 s2->RelV x v->RelV y u->R x y H2->wpAny (model X.prog X.w) X.A (f v u) Q X.xe s2) :
  wpAny (model X.prog X.w) X.A (eval a X.env) (λv s₁=>wpAny (model X.prog X.w) X.A (eval b X.env) (λu s₂=>wpAny (model X.prog X.w) X.A (f v u) Q X.xe s₂) X.xe s₁) X.xe s:=by
 refine fB (ha pins s σ H _ I h) λv s1 ⟨x,H1,I1,r1,q1⟩=>?_
 refine fB (hb pins s1 σ H1 _ I1 q1) λu s2 ⟨y,H2,I2,r2,q2⟩=>?_
 exact hf v u s2 x y H2 I2 r1 r2 q2
theorem bp (ho:xi X (binaryOp op) r) (ha:PE X a ta) (hb:PE X b tb):PE X (.BinOp a op b pos) (LM r ta tb):=by
 intro pins s σ H Q I h;exact wpAny_BinOp (Ll ha hb I h λv u s2 x y H2 I2 rx ry q=>ho pins s2 σ H2 x y v u Q I2 rx ry q)
theorem ya (ho:Nj X (unaryOp op) r) (ha:PE X a ta):PE X (.UnaryOp op a pos) (MI r ta):=by
 intro pins s σ H Q I h;exact UnaryOp_ (fB (ha pins s σ H _ I h) λv s1 ⟨x,H1,I1,r1,q1⟩=>ho pins s1 σ H1 x v Q I1 r1 q1)
theorem MJ {g:Int->Int->Int}
  (rule:∀(i j:Int) (t u:Tok) (s:Shared) (Q:Value->Shared->Prop) (E:Value->Shared->Prop),C i j->Q (.int (g i j) s.toks) { s with toks:=s.toks+1 }->wpAny (model X.prog X.w) X.A (f (.int i t) (.int j u)) Q E s) :
  xi X f (rI C λi j=>.int (g i j)):=by
 intro pins s σ H x y v u Q I rx ry h;obtain ⟨i,j,rfl,rfl,hc,q⟩:=h;obtain ⟨t,rfl⟩:=rx;obtain ⟨t',rfl⟩:=ry;exact rule i j t t' s _ _ hc ⟨.int (g i j),H,I.tok _,⟨_,rfl⟩,q⟩
theorem Mj {g:Int->Int->Int}
  (rule:∀(i j:Int) (t u:Tok) (s:Shared) (Q:Value->Shared->Prop) (E:Value->Shared->Prop),Q (.int (g i j) s.toks) { s with toks:=s.toks+1 }->wpAny (model X.prog X.w) X.A (f (.int i t) (.int j u)) Q E s) :
  xi X f (JL λi j=>.int (g i j)):=by
 intro pins s σ H x y v u Q I rx ry h;obtain ⟨i,j,rfl,rfl,q⟩:=h;obtain ⟨t,rfl⟩:=rx;obtain ⟨t',rfl⟩:=ry;exact rule i j t t' s _ _ ⟨.int (g i j),H,I.tok _,⟨_,rfl⟩,q⟩
theorem KY {g:Int->Int->Bool}
  (rule:∀(i j:Int) (t u:Tok) (s:Shared) (Q:Value->Shared->Prop) (E:Value->Shared->Prop),Q (.bool (g i j)) s->wpAny (model X.prog X.w) X.A (f (.int i t) (.int j u)) Q E s) :
  xi X f (JL λi j=>.bl (g i j)):=by
 intro pins s σ H x y v u Q I rx ry h;obtain ⟨i,j,rfl,rfl,q⟩:=h;obtain ⟨t,rfl⟩:=rx;obtain ⟨t',rfl⟩:=ry;exact rule i j t t' s _ _ ⟨.bl (g i j),H,I,rfl,q⟩
def Ls (i j:Int):Prop:=(-(2^64) < i/\i < 2^64)\/(-(2^64) < j/\j < 2^64)
theorem Ls.ok (h:Ls i j):IntMulOk i j:=by
 rcases h with ⟨h1,h2⟩ | ⟨h1,h2⟩
 ·exact .of_left (intBits_le_64 h1 h2)
 ·exact .of_right (intBits_le_64 h1 h2)
theorem dG:xi X (binaryOp .Add) (JL λi j=>.int (i+j)):=Mj λ_ _ _ _ _ _ _ q=>add_int q
theorem jP:xi X (binaryOp .Sub) (JL λi j=>.int (i - j)):=Mj λ_ _ _ _ _ _ _ q=>sub_int q
theorem jQ:xi X (binaryOp .Mod) (rI (λ_ j=>0 < j) λi j=>.int (i % j)):=MJ λi j _ _ _ _ _ hc q=>by
 have h1:(0:Int) < j:=hc;exact mod_int' (by lia) (by rw[Int.fmod_eq_emod_of_nonneg i (by lia)];exact q)
theorem IZ:xi X (binaryOp .Mod) (rI (λ_ j=>j≠0) λi j=>.int (i.fmod j)):=MJ λ_ _ _ _ _ _ _ hc q=>mod_int' hc q
theorem unI {g:Int->Int}
  (rule:∀(i:Int) (t:Tok) (s:Shared) (Q:Value->Shared->Prop) (E:Value->Shared->Prop),Q (.int (g i) s.toks) { s with toks:=s.toks+1 }->wpAny (model X.prog X.w) X.A (f (.int i t)) Q E s) :
  Nj X f (rU λi=>.int (g i)):=by
 intro pins s σ H x v Q I rx h;obtain ⟨i,rfl,q⟩:=h;obtain ⟨t,rfl⟩:=rx;exact rule i t s _ _ ⟨.int (g i),H,I.tok _,⟨_,rfl⟩,q⟩
theorem rn:Nj X (unaryOp .USub) (rU λi=>.int (-i)):=unI λ_ _ _ _ _ q=>neg_int q
end
def LZ:V->V->Bool
 | .non,.non=>true | .non,.int _=>true | .int _,.non=>true | .non,.bl _=>true | .bl _,.non=>true | .non,.str _=>true | .str _,.non=>true
 | .int _,.int _=>true | .bl _,.bl _=>true | .str _,.str _=>true | .byt _,.byt _=>true
 | .int _,.str _=>true | .str _,.int _=>true | .bl _,.str _=>true | .str _,.bl _=>true
 | _,_=>false
def MY:R2:=λx y H Q=>LZ x y=true/\Q (.bl (decide (x=y))) H
def MW:R2:=λx y H Q=>LZ x y=true/\Q (.bl (!decide (x=y))) H
theorem DK:decide (V.int i=V.int j)=(i == j):=by
 rw[jK];simp
theorem GB:decide (V.bl i=V.bl j)=(i == j):=by
 rw[jK];simp
theorem DJ:decide (V.str i=V.str j)=(i == j):=by
 rw[jK];simp
theorem DL:decide (V.byt i=V.byt j)=(i.toList == j.toList):=by
 rw[jK];cases i;cases j;simp
section
variable {X:Cx} {a b c:Expr} {ta tb tc:TE} {pos:Pos}
theorem cV {σ:St} (I:Inv X pins σ H s) (q:Q (.bl k) H) (e:k=k'):EP X pins σ Q (.bool k') s:=by
 subst e;exact ⟨.bl k,H,I,rfl,q⟩
theorem eH:xi X (compareOp .Eq) MY:=by
 intro pins s σ H x y v u Q I rx ry h;obtain ⟨hs,q⟩:=h;cases x with
 | non =>
  cases rx;cases y with
  | non=>cases ry;exact PySem.EqNone.eq_none_none (cV I q (by simp))
  | bl j=>cases ry;exact PySem.EqNone.eq_none_bool (cV I q (by simp))
  | int j=>obtain ⟨t',rfl⟩:=ry;exact PySem.EqNone.eq_none_int (cV I q (by simp))
  | str j=>obtain ⟨t',rfl⟩:=ry;exact PySem.EqNone.eq_none_str (cV I q (by simp))
  | _=>exact absurd (show false=true from hs) aY
 | bl i =>
  cases rx;cases y with
  | non=>cases ry;exact PySem.EqNone.eq_bool_none (cV I q (by simp))
  | bl j=>cases ry;exact eq_bool (cV I q GB)
  | str j=>obtain ⟨t',rfl⟩:=ry;exact PySem.EqMixed.eq_bool_str (cV I q (by simp))
  | _=>exact absurd (show false=true from hs) aY
 | int i =>
  obtain ⟨t,rfl⟩:=rx;cases y with
  | non=>cases ry;exact PySem.EqNone.eq_int_none (cV I q (by simp))
  | int j=>obtain ⟨t',rfl⟩:=ry;exact eq_int (cV I q DK)
  | str j=>obtain ⟨t',rfl⟩:=ry;exact PySem.EqMixed.eq_int_str (cV I q (by simp))
  | _=>exact absurd (show false=true from hs) aY
 | str i =>
  obtain ⟨t,rfl⟩:=rx;cases y with
  | non=>cases ry;exact PySem.EqNone.eq_str_none (cV I q (by simp))
  | bl j=>cases ry;exact PySem.EqMixed.eq_str_bool (cV I q (by simp))
  | int j=>obtain ⟨t',rfl⟩:=ry;exact PySem.EqMixed.eq_str_int (cV I q (by simp))
  | str j=>obtain ⟨t',rfl⟩:=ry;exact eq_str (cV I q DJ)
  | _=>exact absurd (show false=true from hs) aY
 | byt i =>
  obtain ⟨t,rfl⟩:=rx;cases y with
  | byt j=>obtain ⟨t',rfl⟩:=ry;exact PySem.W.eq_bytes (cV I q DL)
  | _=>exact absurd (show false=true from hs) aY
 | _=>cases y <;> exact absurd (show false=true from hs) aY
theorem yd:xi X (compareOp .NotEq) MW:=by
 intro pins s σ H x y v u Q I rx ry h;obtain ⟨hs,q⟩:=h;cases x with
 | non =>
  cases rx;cases y with
  | non=>cases ry;exact PySem.EqNone.ne_none_none (cV I q (by simp))
  | bl j=>cases ry;exact PySem.EqNone.ne_none_bool (cV I q (by simp))
  | int j=>obtain ⟨t',rfl⟩:=ry;exact PySem.EqNone.ne_none_int (cV I q (by simp))
  | str j=>obtain ⟨t',rfl⟩:=ry;exact PySem.EqNone.ne_none_str (cV I q (by simp))
  | _=>exact absurd (show false=true from hs) aY
 | bl i =>
  cases rx;cases y with
  | non=>cases ry;exact PySem.EqNone.ne_bool_none (cV I q (by simp))
  | bl j=>cases ry;exact ne_bool (cV I q (congrArg not GB))
  | str j=>obtain ⟨t',rfl⟩:=ry;exact PySem.EqMixed.ne_bool_str (cV I q (by simp))
  | _=>exact absurd (show false=true from hs) aY
 | int i =>
  obtain ⟨t,rfl⟩:=rx;cases y with
  | non=>cases ry;exact PySem.EqNone.ne_int_none (cV I q (by simp))
  | int j=>obtain ⟨t',rfl⟩:=ry;exact ne_int (cV I q (congrArg not DK))
  | str j=>obtain ⟨t',rfl⟩:=ry;exact PySem.EqMixed.ne_int_str (cV I q (by simp))
  | _=>exact absurd (show false=true from hs) aY
 | str i =>
  obtain ⟨t,rfl⟩:=rx;cases y with
  | non=>cases ry;exact PySem.EqNone.ne_str_none (cV I q (by simp))
  | bl j=>cases ry;exact PySem.EqMixed.ne_str_bool (cV I q (by simp))
  | int j=>obtain ⟨t',rfl⟩:=ry;exact PySem.EqMixed.ne_str_int (cV I q (by simp))
  | str j=>obtain ⟨t',rfl⟩:=ry;exact ne_str (cV I q (congrArg not DJ))
  | _=>exact absurd (show false=true from hs) aY
 | byt i =>
  obtain ⟨t,rfl⟩:=rx;cases y with
  | byt j=>obtain ⟨t',rfl⟩:=ry;exact PySem.W.ne_bytes (cV I q (congrArg not DL))
  | _=>exact absurd (show false=true from hs) aY
 | _=>cases y <;> exact absurd (show false=true from hs) aY
theorem oK:xi X (compareOp .Lt) (JL λi j=>.bl (decide (i < j))):=KY λ_ _ _ _ _ _ _ q=>lt_int q
theorem tN:xi X (compareOp .Gt) (JL λi j=>.bl (decide (j < i))):=KY λ_ _ _ _ _ _ _ q=>gt_int q
theorem vV:xi X (compareOp .GtE) (JL λi j=>.bl (decide (j<=i))):=KY λ_ _ _ _ _ _ _ q=>ge_int q
theorem zl:xi X (compareOp .IsNot) (λx y H Q=>y=.non/\Q (.bl (!decide (x=.non))) H):=by
 intro pins s σ H x y v u Q I rx ry h;obtain ⟨rfl,q⟩:=h;cases ry;refine isnot_none_gen (cV I q ?_)
 cases x <;> first
  | (cases rx;rfl)
  | (obtain ⟨t,rfl⟩:=rx;rfl)
theorem bG (b:Expr) {op:CmpOp} (h:op≠.In:=by decide) (h2:op≠.NotIn:=by decide):behindInMarks op b=false:=by
 have e1:(op == CmpOp.In)=false:=by cases op <;> first | rfl | exact absurd rfl h
 have e2:(op == CmpOp.NotIn)=false:=by cases op <;> first | rfl | exact absurd rfl h2
 cases b <;> simp [behindInMarks,e1,e2]
theorem jC (ho:xi X (compareOp op) r) (ha:PE X a ta) (hb:PE X b tb) (hm:behindInMarks op b=false):PE X (.Compare a [op] [b] pos) (LM r ta tb):=by
 intro pins s σ H Q I h;exact wpAny_Compare1 (Ll ha hb I h λv u s2 x y H2 I2 rx ry q=>ho pins s2 σ H2 x y v u Q I2 rx ry q) hm
def JB (t:TE):TT:=λσ H Q=>t σ H λx H'=>∃k,x=.bl k/\Q k H'
theorem bu (ho:xi X (compareOp op) r) (ha:PE X a ta) (hb:PE X b tb) (hm:behindInMarks op b=false):PT X (.Compare a [op] [b] pos) (JB (LM r ta tb)):=by
 intro pins s σ H Q I h
 refine wpAny_isTrue_Compare1 (fB (ha pins s σ H _ I h) λv s1 ⟨x,H1,I1,r1,q1⟩=>fB (hb pins s1 σ H1 _ I1 q1) λu s2 ⟨y,H2,I2,r2,q2⟩ =>
  fB (ho pins s2 σ H2 x y v u _ I2 r1 r2 q2) λc s3 ⟨z,H3,I3,r3,k,e,q3⟩=>?_) hm
 subst e;cases r3;exact wpAny_truthy_bool ⟨H3,I3,q3⟩
theorem wu:(sizeLine:Nat) < 2^63:=by rw[sizeLine_eq];decide
theorem vals1 (r:cI [x] us):∃u,us=[u]/\RelV x u:=by
 cases r with
 | cons r1 r2=>cases r2;exact ⟨_,rfl,r1⟩
theorem vals2 (r:cI [x,y] us):∃u w',us=[u,w']/\RelV x u/\RelV y w':=by
 cases r with
 | cons r1 r2 =>
  cases r2 with
  | cons r3 r4=>cases r4;exact ⟨_,_,rfl,r1,r3⟩
theorem qQ:mJ X (.builtin "abs") (λxs H Q=>∃i,xs=[.int i]/\Q (.int (if i < 0 then -i else i)) H):=by
 intro pins s σ H xs us Q I r h;obtain ⟨i,rfl,q⟩:=h;obtain ⟨u,rfl,t,rfl⟩:=vals1 r;exact call_abs_int λu tk=>⟨.int (if i < 0 then -i else i),H,I.tok _,⟨_,rfl⟩,q⟩
theorem oF (hc:X.calm=true):mJ X (.builtin "min") (λxs H Q=>∃i j,xs=[.int i,.int j]/\Q (.int (if j < i then j else i)) H):=by
 intro pins s σ H xs us Q I r h;obtain ⟨i,j,rfl,q⟩:=h;obtain ⟨u,w',rfl,⟨t,rfl⟩,⟨t',rfl⟩⟩:=vals2 r;refine min_two_ints (I.ok.hd hc) λh' tk k=>⟨_,H,I.kept k,?_,q⟩
 by_cases hj:j < i
 ·rw[if_pos hj,if_pos hj];exact ⟨_,rfl⟩
 ·rw[if_neg hj,if_neg hj];exact ⟨_,rfl⟩
end
structure CH (h:Heap) (x dx C:Addr) (mA:Str->Option Value):Prop where
 obj:h.get? x=some (PySem.W.instObj C dx)
 ns:h.Ns1 dx mA
 ne:dx≠x
theorem EN {h:Heap} (n:h.Ns1 dx mA):∃od,h.get? dx=some od/\∀name,PySem.W.lookIn name od=some (mA name):=by
 obtain ⟨o,es,ep,ho,hd,hk,_,hm⟩:=n;refine ⟨o,ho,λname=>?_⟩;have e:=hm name;unfold nsFind findBy at e;rw[<- Array.find?_toList] at e;unfold PySem.W.lookIn;rw[hd]
 dsimp only
 split
 ·rename_i y q
  rw[q] at e;exact congrArg some e
 ·rename_i q
  rw[q] at e
  have a:es.toList.any (·.refKey)=false:=by
   rw[List.any_eq_false];intro y hy;obtain ⟨z,t,hkey⟩:=hk y (Array.mem_toList_iff.mp hy);simp [DictEntry.refKey,hkey]
  have a':¬es.toList.any (·.refKey)=true:=by rw[a];exact aY
  rw[if_neg a'];exact congrArg some e
theorem CH.look (I:CH h x dx C mA):∃od,PySem.W.InstAt h x (PySem.W.instObj C dx) C (some od)/\∀name,PySem.W.lookIn name od=some (mA name) :=
 let ⟨od,ho,hl⟩:=EN I.ns
 ⟨od,⟨I.obj,rfl,rfl,ho⟩,hl⟩
section
variable {prog:Program} {w:World} {A:Around} {E:Value->Shared->Prop} {s:Shared} {K:FG9} {x dx C f:Addr} {mA:Str->Option Value} {name:Str} {v:Value}
theorem get_map (X:K.In s.heap) (I:CH s.heap x dx C mA) (hg:PySem.W.plainGet K C name=true) (hh:PySem.W.hasDictIn K C=true)
  (ha:PySem.W.findIn K (.ref C) name=some none) (hv:mA name=some v) (hv':PySem.W.handedIn v=true) (h:Q v { s with toks:=s.toks+1 }) :
  wpAny (model prog w) A (getAttr (.ref x) name expr) Q E s:=by
 obtain ⟨od,J,hl⟩:=I.look;exact PySem.W.get_value X J (zX hg).1 (PySem.W.findObj_own hh ha rfl (by rw[hl,hv])) hv' h
theorem Gg (X:K.In s.heap) (I:CH s.heap x dx C mA) (hg:PySem.W.plainGet K C name=true)
  (hf:PySem.W.findIn K (.ref C) name=some (some (.ref f))) (ht:PySem.W.isFn K (.ref f)=true) (hv:mA name=none) (h:Q (.ref f,[.ref x]) s) :
  wpAny (model prog w) A (getMethod (.ref x) name pl) Q E s:=by
 obtain ⟨od,J,hl⟩:=I.look;exact PySem.W.method_fn X J (zX hg).1 (zX hg).2 hf (beq_iff_eq.mp ht) (by show (PySem.W.lookIn name od).map (·.isSome)=some false;rw[hl,hv];rfl) h
theorem Im (X:K.In s.heap) (I:CH s.heap x dx C mA)
  (hs:PySem.W.findIn K (.ref C) "__setattr__"=some (some (.builtin "object.__setattr__"))) (hp:PySem.W.plainOver K C=true) (ht:PySem.W.takerIn K C name=some none) (hh:PySem.W.hasDictIn K C=true)
  (hw:PySem.Within mA ns) (hsz:ns.length<=sizeLine)
  (h:∀h',CH h' x dx C (λy=>if y=name then some v else mA y)->Heap.SameBut dx s.heap h'->Q () { s with heap:=h',toks:=s.toks+2 }) :
  wpAny (model prog w) A (setAttr (.ref x) name v) Q E s:=by
 obtain ⟨od,J,hl⟩:=I.look;refine PySem.W.set_plain X J hs (PySem.W.osa_open (s:={ s with toks:=s.toks+1 }) (r:=none) X J hp ht λb=>?_);obtain ⟨cd,hc,hd'⟩:=PySem.W.any_some hh;have hx:s.heap.get? x=some ⟨.ref C,some dx,.plain,#[]⟩:=I.obj;refine wpAny_bind (wpAny_pure (wpAny_bind (wpAny_bind (wpAny_loadPart hx (wpAny_bind (PySem.W.Looks.here (s:={ s with toks:=s.toks+1 }) (PySem.W.looks_clsIn X hc) ?_))))));rw[hd'];refine wpAny_pure (a:=some dx) (wpAny_bind (wpAny_pure (wpAny_bind ?_)));refine wpAny_nsSet1 (s:={ s with toks:=s.toks+1 }) I.ns λh' hn2 hs2=>?_
 obtain ⟨oD,esD,epD,hoD,hdD,hcD⟩:=hn2.count (PySem.Within.cons name v hw);refine wpAny_bind (wpAny_lookBehind hoD (by rw[hdD];exact pastItsLine_dict (ai hcD (by rw[bF];lia))) ?_);exact wpAny_pure (h _ ⟨(hs2.2 _ (Ne.symm I.ne)).trans I.obj,hn2,I.ne⟩ hs2)
theorem F3 (X:K.In s.heap) (hm:PySem.W.makesIn K C=true)
  (hi:PySem.W.findIn K (.ref C) "__init__"=some (some (.ref f))) (hf:PySem.W.typeIn K (.ref f)=some (.type "function"))
  (h:codeAny (model prog w) (A.under (.builtin "type.__call__" ⟨.ref C :: vs,kw⟩)) (.call (.ref f) ⟨.ref (s.heap.objs.size+1) :: vs,kw⟩) (PySem.W.InitBack (s.heap.objs.size+1) R)
   { s with heap:=(s.heap.push PySem.W.emptyDict).push (PySem.W.instObj C s.heap.objs.size) }) :
  codeAny (model prog w) A (.call (.ref C) ⟨vs,kw⟩) R s:=by
 obtain ⟨hh,g,d,t,os⟩:=s;exact PySem.W.make_core (PySem.W.makes_of X hm) (PySem.W.looks_findIn X hi) (λself=>PySem.W.bind_fn X self hf) (.inl rfl) h
end
def bU (f:Str) (v:V):List (Str×V)->List (Str×V)
 | []=>[(f,v)]
 | (g,x) :: r=>if g=f then (g,v) :: r else (g,x) :: bU f v r
theorem bo (f g:Str) (v:V):∀fs:List (Str×V),(bU f v fs).lookup g=if g=f then some v else fs.lookup g
 | []=>by
  show List.lookup g [(f,v)]=_
  by_cases h:g=f
  ·have hb:(g == f)=true:=beq_iff_eq.mpr h;simp only[List.lookup,hb,if_pos h]
  ·have hb:(g == f)=false:=beq_eq_false_iff_ne.mpr h;simp only[List.lookup,hb,if_neg h]
 | (k,x) :: r=>by
  have ih:=bo f g v r;rw[show bU f v ((k,x) :: r)=(if k=f then (k,v) :: r else (k,x) :: bU f v r) from rfl];by_cases hk:k=f
  ·rw[if_pos hk];by_cases h:g=k
   ·have hb:(g == k)=true:=beq_iff_eq.mpr h;simp only[List.lookup,hb,if_pos (h.trans hk)]
   ·have hb:(g == k)=false:=beq_eq_false_iff_ne.mpr h;simp only[List.lookup,hb,if_neg (λe:g=f=>h (e.trans hk.symm))]
  ·rw[if_neg hk];by_cases h:g=k
   ·have hb:(g == k)=true:=beq_iff_eq.mpr h;simp only[List.lookup,hb,if_neg (λe:g=f=>hk (h.symm.trans e))]
   ·have hb:(g == k)=false:=beq_eq_false_iff_ne.mpr h;simp only[List.lookup,hb];exact ih
theorem sU (f:Str) (v:V):∀fs:List (Str×V),f∈(bU f v fs).map (·.1)/\∀g,g∈fs.map (·.1)->g∈(bU f v fs).map (·.1)
 | []=>⟨by simp [bU],λg h=>by simp at h⟩
 | (k,x) :: r=>by
  obtain ⟨i1,i2⟩:=sU f v r;rw[show bU f v ((k,x) :: r)=(if k=f then (k,v) :: r else (k,x) :: bU f v r) from rfl];by_cases hk:k=f
  ·rw[if_pos hk];subst hk;exact ⟨by simp,λg h=>by simpa using h⟩
  ·rw[if_neg hk];refine ⟨?_,λg h=>?_⟩
   ·rw[dZ];exact ba _ i1
   ·rw[dZ] at h ⊢;rcases aA.mp h with e | e
    ·exact aA.mpr (.inl e)
    ·exact ba _ (i2 g e)
theorem tQ (f:Str) (v:V):∀fs:List (Str×V),(bU f v fs).length<=fs.length+1
 | []=>by simp [bU]
 | (k,x) :: r=>by
  have ih:=tQ f v r;rw[show bU f v ((k,x) :: r)=(if k=f then (k,v) :: r else (k,x) :: bU f v r) from rfl];by_cases hk:k=f
  ·rw[if_pos hk,bF,bF];lia
  ·rw[if_neg hk,bF,bF];lia
theorem xH.some_of (r:xH (some v) o):∃u,o=some u/\RelV v u:=by
 cases o with
 | none=>exact (show False from r).elim
 | some u=>exact ⟨u,rfl,r⟩
theorem xH.none_of (r:xH none o):o=none:=by
 cases o with
 | none=>rfl
 | some u=>exact (show False from r).elim
theorem ES (r:RelV v u):PySem.W.handedIn u=true:=by
 cases v with
 | non=>cases (show u=Value.none from r);rfl
 | bl b=>cases (show u=Value.bool b from r);rfl
 | int i=>obtain ⟨t,e⟩:=(show ∃t,u=Value.int i t from r);cases e;rfl
 | str x=>obtain ⟨t,e⟩:=(show ∃t,u=Value.str x t from r);cases e;rfl
 | byt b=>obtain ⟨t,e⟩:=(show ∃t,u=Value.bytes b t from r);cases e;rfl
 | flt b=>obtain ⟨t,e⟩:=(show ∃t,u=Value.float b t from r);cases e;rfl
 | ref a=>cases (show u=Value.ref a from r);rfl
 | ty n=>cases (show u=Value.type n from r);rfl
section
variable {P:Program} {w:World} {H H':Hp} {h h':Heap} {a C dx:Addr} {fs fs':List (Str×V)}
theorem uW (hok:uZ P w H h) (e:H a=some (.ins C dx fs)):∃mA,CH h a dx C mA/\(∀f,xH (fs.lookup f) (mA f))/\PySem.Within mA (fs.map (·.1))/\fs.length<=1000/\H dx=some (.own a):=by
 obtain ⟨d,z,ne,ob,mA,n,r,q⟩:=(show ia P w H h a (.ins C dx fs) from hok a _ e);exact ⟨mA,⟨ob,n,ne⟩,r,q,z,d⟩
end
structure E8 (K:FG9) (C:Addr):Prop where
 pg:PySem.W.plainGet K C Str.empty=true
 hd:PySem.W.hasDictIn K C=true
 po:PySem.W.plainOver K C=true
 sa:PySem.W.findIn K (.ref C) "__setattr__"=some (some (.builtin "object.__setattr__"))
theorem E8.get {K:FG9} (c:E8 K C) (f:Str):PySem.W.plainGet K C f=true:=c.pg
def iM (K:FG9) (C:Addr) (f:Str):Prop:=PySem.W.findIn K (.ref C) f=some none
theorem iM.taker {K:FG9} (n:iM K C f):PySem.W.takerIn K C f=some none:=by
 unfold PySem.W.takerIn;rw[show PySem.W.findIn K (.ref C) f=some none from n];rfl
structure Lo (K:FG9) (C:Addr) (m:Str) (f:Addr):Prop where
 at_:PySem.W.findIn K (.ref C) m=some (some (.ref f))
 fn:PySem.W.isFn K (.ref f)=true
 kp:PySem.W.keepIn K (.ref f)=true
section
variable {X:Cx} {pins:List (Addr×Obj)} {σ:St} {H:Hp} {s:Shared} {a C dx:Addr} {fs:List (Str×V)} {f:Str} {v:V} {A:Around} {E:Value->Shared->Prop}
theorem Cr (I:Inv X pins σ H s) (e:H a=some (.ins C dx fs)) (c:E8 X.K C) (n:iM X.K C f) (l:fs.lookup f=some v)
  (h:∀u s',Inv X pins σ H s'->RelV v u->Q u s'):wpAny (model X.prog X.w) A (getAttr (.ref a) f b) Q E s:=by
 obtain ⟨mA,O,r,_,_,_⟩:=uW I.hok e;obtain ⟨u,hu,ru⟩:=xH.some_of (v:=v) (o:=mA f) (by rw[<- l];exact r f);exact get_map I.kIn O (c.get f) c.hd n hu (ES ru) (h u _ (I.tok _) ru)
theorem Cq (I:Inv X pins σ H s) (e:H a=some (.ins C dx fs)) (c:E8 X.K C) (k:Lo X.K C m g) (l:fs.lookup m=none)
  (h:Q (.ref g,[.ref a]) s):wpAny (model X.prog X.w) A (getMethod (.ref a) m pl) Q E s:=by
 obtain ⟨mA,O,r,_,_,_⟩:=uW I.hok e;have hn:mA m=none:=xH.none_of (by rw[<- l];exact r m);exact Gg I.kIn O (c.get m) k.at_ k.fn hn h
theorem BK (I:Inv X pins σ H s) (e:H a=some (.ins C dx fs)) (c:E8 X.K C) (n:iM X.K C f) (hl:fs.length < 1000) (ry:RelV y u)
  (h:∀s',Inv X pins σ (upd H a (.ins C dx (bU f y fs))) s'->Q () s'):wpAny (model X.prog X.w) A (setAttr (.ref a) f u) Q E s:=by
 obtain ⟨mA,O,r,wi,_,ho⟩:=uW I.hok e;have hz:(fs.map (·.1)).length<=sizeLine:=by rw[ak,sizeLine_eq];lia
 refine Im I.kIn O c.sa c.po n.taker c.hd wi hz λh' O' sb=>h _ ?_
 have hd:∃o,h'.get? dx=some o:=let ⟨o,_,_,e',_⟩:=O'.ns;⟨o,e'⟩
 refine I.write (x:=a) (e:=dx) (by rw[e];exact True.intro) (.inr ho) (λb q hb z=>(sb.2 b hb).trans z) hd ?_;refine ⟨by rw[br O.ne];exact ho,?_,O.ne,O'.obj,_,O'.ns,λg=>?_,λg hg=>?_⟩
 ·have:=tQ f y fs;lia
 ·show xH ((bU f y fs).lookup g) (if g=f then some u else mA g)
  rw[bo];by_cases q:g=f
  ·rw[if_pos q,if_pos q];exact ry
  ·rw[if_neg q,if_neg q];exact r g
 ·by_cases q:g=f
  ·rw[q];exact (sU f y fs).1
  ·refine (sU f y fs).2 g (wi g λz=>hg ?_);show (if g=f then some u else mA g)=none
   rw[if_neg q];exact z
theorem Inv.made (I:Inv X pins σ H s):Inv X pins σ (upd (upd H s.heap.objs.size (.own (s.heap.objs.size+1))) (s.heap.objs.size+1) (.ins C s.heap.objs.size []))
  { s with heap:=(s.heap.push PySem.W.emptyDict).push (PySem.W.instObj C s.heap.objs.size) }:=by
 have e1:(s.heap.push PySem.W.emptyDict).get? s.heap.objs.size=some PySem.W.emptyDict:=Heap.get?_push_size s.heap rfl
 have e2:((s.heap.push PySem.W.emptyDict).push (PySem.W.instObj C s.heap.objs.size)).get? (s.heap.objs.size+1)=some (PySem.W.instObj C s.heap.objs.size):=by
  have:=Heap.get?_push_size (s.heap.push PySem.W.emptyDict) (o:=PySem.W.instObj C s.heap.objs.size) rfl;rwa [Heap.size_push] at this
 have e3:(s.heap.push PySem.W.emptyDict).Ns s.heap.objs.size (λ_=>none):=⟨PySem.W.emptyDict,#[],_,e1,rfl,(λe he=>absurd he (by simp)),λ_=>rfl⟩;have I1:=I.laid (a:=s.heap.objs.size) (o:=.own (s.heap.objs.size+1)) (h':=s.heap.push PySem.W.emptyDict) (t':=s.toks) (λb u q=>Heap.get?_push_of_some _ q) (av _) ⟨_,e1⟩;refine I1.laid (a:=s.heap.objs.size+1) (o:=.ins C s.heap.objs.size []) (t':=s.toks) (λb u q=>Heap.get?_push_of_some _ q) (Nat.le_of_eq (Heap.size_push _ _)) ?_;have ne:s.heap.objs.size≠s.heap.objs.size+1:=cC (gh _);refine ⟨by rw[br ne,aJ],bJ _,ne,e2,λ_=>none,(Heap.Ns1.of_empty e3).at λo q=>Heap.get?_push_of_some _ q,λ_=>True.intro,λy hy=>absurd rfl hy⟩
theorem Jx (hb:attributeBase e f env (eval e env)=eval e env)
  (h:wpAny (model prog w) A (eval e env) (λo s₁=>wpAny (model prog w) A (getAttr o f true) Q E s₁) E s):wpAny (model prog w) A (eval (.Attribute e f pos) env) Q E s :=
 Attribute_any_ h (by rw[arm_eval_Attribute,hb])
end
def Ki (K:FG9) (ta:TE) (f:Str):TE:=λσ H Q=>ta σ H λx H1=>∃a C dx fs v,x=.ref a/\H1 a=some (.ins C dx fs)/\E8 K C/\iM K C f/\fs.lookup f=some v/\Q v H1
def L6 (K:FG9) (ta tv:TE) (f:Str):TS:=λD σ H=>tv σ H λy H1=>ta σ H1 λx H2=>∃a C dx fs,x=.ref a/\H2 a=some (.ins C dx fs)/\E8 K C/\iM K C f/\fs.length < 1000 /\
 D.nx σ (upd H2 a (.ins C dx (bU f y fs)))
section
variable {X:Cx} {o e value:Expr} {f:Str} {pos pos' tpos:Pos} {ta tv:TE}
theorem jt (he:PE X e ta) (hb:attributeBase e f X.env (eval e X.env)=eval e X.env):PE X (.Attribute e f pos) (Ki X.K ta f):=by
 intro pins s σ H Q I h;refine Jx hb (fB (he pins s σ H _ I h) λu s1 ⟨x,H1,I1,rx,a,C,dx,fs,v,ex,ea,c,n,l,q⟩=>?_);subst ex;obtain rfl:u=Value.ref a:=rx;exact Cr I1 ea c n l λu' s2 I2 ru=>⟨v,H1,I2,ru,q⟩
theorem rT (ha:PE X o ta) (hv:PE X value tv) (hs:swapsWith value (some (.Attribute o f pos')) pos.line X.env=pure false):PS X (.Assign [.Attribute o f pos'] value pos) (L6 X.K ta tv f):=by
 intro pins s σ H D I h;refine plainObj_wpAny_Assign_Attribute (fB (hv pins s σ H _ I h) λu s1 ⟨y,H1,I1,ry,q⟩=>fB (ha pins s1 σ H1 _ I1 q) λov s2 ⟨x,H2,I2,rx,a,C,dx,fs,ex,ea,c,n,l,q2⟩=>?_) hs;subst ex;obtain rfl:ov=Value.ref a:=rx;exact BK I2 ea c n l ry λs3 I3=>⟨σ,_,I3,q2⟩
end
section
variable {X:Cx} {pins:List (Addr×Obj)} {σ:St} {H:Hp} {s:Shared} {A:Around} {E:Value->Shared->Prop} {Q:Value->Shared->Prop} {c:Value} {b:Bool}
inductive tD (K:FG9) (H:Hp):V->Value->Prop where
 | non:tD K H .non (.type "NoneType")
 | bl (x:Bool):tD K H (.bl x) (.type "bool")
 | int (i:Int):tD K H (.int i) (.type "int")
 | str (x:Str):tD K H (.str x) (.type "str")
 | flt (x:UInt64):tD K H (.flt x) (.type "float")
 | lst {a:Addr} {xs:List V} (e:H a=some (.lst xs)):tD K H (.ref a) (.type "list")
 | frz {a:Addr} {o:Obj} {xs:List V} (e:H a=some (.frz o (.lst xs))):tD K H (.ref a) (.type "list")
 | tup {a:Addr} {xs:List V} (e:H a=some (.tup xs)):tD K H (.ref a) (.type "tuple")
 | dK {a:Addr} {kvs:List (Key×V)} (e:H a=some (.dK kvs)):tD K H (.ref a) (.type "dict")
 | dT {a:Addr} {kvs:List (List Key×V)} (e:H a=some (.dT kvs)):tD K H (.ref a) (.type "dict")
 | ins {a C dx:Addr} {fs:List (Str×V)} (e:H a=some (.ins C dx fs)) (cl:E8 K C) (ha:PySem.W.findIn K (.ref C) "__class__"=some (some (.builtin "object.__class__")))
   (hn:PySem.W.specialIn K (.builtin "object.__class__") "__get__"=some (some (.builtin "getset_descriptor.__get__"))) (htk:PySem.W.takesIn K (.builtin "object.__class__")=some true)
   (hm:PySem.W.mroIn K C (.type "object")=some true):tD K H (.ref a) (.ref C)
theorem yi (I:Inv X pins σ H s) (rx:RelV x u) (ty:tD X.K H x t) (e:PySem.W.kitOne X.K t c=some b) (h:∀tk,Q (.bool b) { s with toks:=tk }) :
  wpAny (model X.prog X.w) A (call (.builtin "isinstance") [u,c]) Q E s:=by
 cases ty with
 | non=>cases (show u=Value.none from rx);exact cW PySem.W.kitx_none I.kIn True.intro e (λz=>nomatch z) h
 | bl y=>cases (show u=Value.bool y from rx);exact cW PySem.W.kitx_bool I.kIn True.intro e (λz=>nomatch z) h
 | int i=>obtain ⟨t,q⟩:=(show ∃t,u=Value.int i t from rx);cases q;exact cW PySem.W.kitx_int I.kIn True.intro e (λz=>nomatch z) h
 | str y=>obtain ⟨t,q⟩:=(show ∃t,u=Value.str y t from rx);cases q;exact cW PySem.W.kitx_str I.kIn True.intro e (λz=>nomatch z) h
 | flt y=>obtain ⟨t,q⟩:=(show ∃t,u=Value.float y t from rx);cases q;exact cW PySem.W.kitx_float I.kIn True.intro e (λz=>nomatch z) h
 | @lst a xs ea =>
  cases (show u=Value.ref a from rx);obtain ⟨_,_,n,_,h1⟩:=(show ia X.prog X.w H s.heap a (.lst xs) from I.hok a _ ea);exact cW PySem.W.kitx_list I.kIn ⟨_,h1,rfl⟩ e (λz=>nomatch z) h
 | @frz a ob xs ea =>
  cases (show u=Value.ref a from rx);obtain ⟨_,_,_,n,_,h1⟩:=(show ia X.prog X.w H s.heap a (.frz ob (.lst xs)) from I.hok a _ ea);exact cW PySem.W.kitx_list I.kIn ⟨_,h1,rfl⟩ e (λz=>nomatch z) h
 | @tup a xs ea =>
  cases (show u=Value.ref a from rx);obtain ⟨_,_,_,p⟩:=(show ia X.prog X.w H s.heap a (.tup xs) from I.hok a _ ea);obtain ⟨o,h1,h2,_⟩:=p;exact cW PySem.W.kitx_tuple I.kIn ⟨o,h1,h2⟩ e (λz=>nomatch z) h
 | @dK a kvs ea =>
  cases (show u=Value.ref a from rx);obtain ⟨_,_,vs,_,p⟩:=(show ia X.prog X.w H s.heap a (.dK kvs) from I.hok a _ ea);obtain ⟨o,es,ep,h1,h2,_⟩:=p;exact cW PySem.W.kitx_dict I.kIn ⟨o,h1,h2.1⟩ e (λz=>nomatch z) h
 | @dT a kvs ea =>
  cases (show u=Value.ref a from rx);obtain ⟨_,_,xs,_,o,es,ep,h1,h2,_⟩:=(show ia X.prog X.w H s.heap a (.dT kvs) from I.hok a _ ea);exact cW PySem.W.kitx_dict I.kIn ⟨o,h1,h2.1⟩ e (λz=>nomatch z) h
 | @ins a C dx fs ea cl ha hn htk hm =>
  cases (show u=Value.ref a from rx);obtain ⟨mA,O,_⟩:=uW I.hok ea;obtain ⟨od,J,_⟩:=O.look;exact cW (PySem.W.kitx_own (cl.get _) cl.hd ha hn htk hm) I.kIn J e (λz=>nomatch z) h
end
structure jw (k:Nat) (A:Around):Prop where
 hd:A.handled=none
 dp:A.depth+3*k+5 < recursionLimit
 un:A.units+16*k+200 < cLine
theorem jw.mono (r:jw k A) (h:j<=k):jw j A:=⟨r.hd,by have:=r.dp;lia,by have:=r.un;lia⟩
theorem jw.deeper (r:jw (k+1) A) (env:Env):jw k (A.deeper env) :=
 ⟨r.hd,by have:=r.dp;show A.depth+1+3*k+5 < _;lia,by have:=r.un;show A.units+3+16*k+200 < _;lia⟩
theorem Ck {A:Around}:(A.under (.builtin "type.__call__" ⟨.ref C :: us,kw⟩)).depth=A.depth+1:=by
 first | rfl | simp [Around.under,Code.weight,Code.isCreation,Code.isGuard,Code.isCaller,Code.frames,Code.isFrame,guardIds]
theorem Cj {A:Around}:(A.under (.builtin "type.__call__" ⟨.ref C :: us,kw⟩)).units=A.units+1:=by
 first | rfl | simp [Around.under,Code.cUnits,Code.frames,Code.isFrame]
theorem jw.make (r:jw (k+1) A) (C:Addr) (us:List Value) (kw:List (Str×Value)):jw k (A.under (.builtin "type.__call__" ⟨.ref C :: us,kw⟩)) :=
 ⟨r.hd,by have:=r.dp;rw[Ck];lia,by have:=r.un;rw[Cj];lia⟩
theorem jw.depth (r:jw k A):A.depth < recursionLimit:=by have:=r.dp;lia
theorem jw.units (r:jw k A):A.units+64 < cLine:=by have:=r.un;lia
def Eh:TA:=λ_ H Q=>Q [] H
def mT (ta:TE) (tr:TA):TA:=λσ H Q=>ta σ H λx H1=>tr σ H1 λxs H2=>Q (x :: xs) H2
section
variable {X:Cx} {e:Expr} {es:List Expr} {te:TE} {t:TA} {pos:Pos}
theorem ag:PA X [] Eh:=λ_ _ _ _ H Q I h=>Calls.spliced_nil ⟨[],H,I,.nil,h⟩
theorem ae (ha:PE X e te) (hr:PA X es t) (hs:starEach (e :: es) X.env=(false,eval e X.env) :: starEach es X.env:=by rfl):PA X (e :: es) (mT te t):=by
 intro pos pins s σ H Q I h;rw[hs];show wpAny _ _ (spliced ((false,eval e X.env) :: backTo pos (starEach es X.env))) _ _ s
 refine Calls.spliced_cons (fB (ha pins s σ H _ I h) λu s1 ⟨x,H1,I1,r1,q1⟩=>?_);exact fB (hr pos pins s1 σ H1 _ I1 q1) λus s2 ⟨xs,H2,I2,r2,q2⟩=>⟨x :: xs,H2,I2,.cons r1 r2,q2⟩
def LH (t:TA):TE:=λσ H Q=>t σ H λxs H1=>xs.length<=sizeLine/\∀p,H1 p=none->Q (.ref p) (upd H1 p (.tup xs))
def LO (t:TA):TE:=λσ H Q=>t σ H λxs H1=>xs.length<=sizeLine/\∀p,H1 p=none->Q (.ref p) (upd H1 p (.lst xs))
theorem cL (h:PA X es t):PE X (.Tuple es x1 pos) (LH t):=by
 intro pins s σ H Q I hq;refine wpAny_Tuple_spliced (fB (h pos pins s σ H _ I hq) λus s1 ⟨xs,H1,I1,r,z,q⟩=>⟨by rw[<- r.length];exact z,?_⟩);have hf:H1 s1.heap.objs.size=none:=I1.hok.fresh (av _);refine ⟨.ref s1.heap.objs.size,upd H1 s1.heap.objs.size (.tup xs),I1.laid (t':=s1.toks) (λb u e=>Heap.get?_push_of_some _ e) (av _) ?_,rfl,q _ hf⟩;exact ⟨z,us,r,⟨_,Heap.get?_push_size _ rfl,rfl,_,rfl⟩⟩
theorem dB (h:PA X es t):PE X (.List es pos) (LO t):=by
 intro pins s σ H Q I hq;refine wpAny_List_spliced (fB (h pos pins s σ H _ I hq) λus s1 ⟨xs,H1,I1,r,z,q⟩=>⟨by rw[<- r.length];exact z,?_⟩);have hf:H1 s1.heap.objs.size=none:=I1.hok.fresh (av _);refine ⟨.ref s1.heap.objs.size,upd H1 s1.heap.objs.size (.lst xs),I1.laid (t':=s1.toks) (λb u e=>Heap.get?_push_of_some _ e) (av _) ?_,rfl,q _ hf⟩;exact ⟨z,us,0,r,Heap.get?_push_size _ rfl⟩
end
abbrev Sp:=List V->Hp->VK->XK->Prop
abbrev Hs:=List Env->Hp->Shared->XK->Value->Shared->Prop
structure CK (P:Program) (w:World) (K:FG9) (mg:Str->Option Value) (base:Heap) (A:Around) (outer:List Env) (s:Shared) (H:Hp):Prop where
 frames:A.frames=some outer
 mod:Mod K mg base
 bs:∀b o,base.get? b=some o->s.heap.get? b=some o/\H b=none
 bsz:base.objs.size<=s.heap.objs.size
 funs:s.heap.FunFrames base outer
 frf:∀b∈E6 outer,H b=none
 hok:uZ P w H s.heap
 bare:AllBare s.gens
def CE (outer:List Env) (P:Program) (w:World) (H:Hp) (s:Shared) (Q:VK) (u:Value) (s':Shared):Prop :=
 ∃v H',s'.os=s.os/\AllBare s'.gens/\Un (E6 outer) [] H H' s.heap s'.heap/\uZ P w H' s'.heap/\RelV v u/\Q v H'
def CR (CX:Hs) (outer:List Env) (P:Program) (w:World) (H:Hp) (s:Shared) (Q:VK) (E:XK) (r:Result) (s':Shared):Prop :=
 match r with
 | .ok (.ret u)=>CE outer P w H s Q u s'
 | .ok _=>False
 | .error e=>CX outer H s E e s'
structure cE (P:Program) (w:World) (K:FG9) (mg:Str->Option Value) (base:Heap) (CX:Hs) (k:Nat) (f:Addr) (fd:FuncData) (ps:List Str) (sp:Sp):Prop where
 len:∀vs H Q E,sp vs H Q E->vs.length=ps.length
 run:∀(A:Around) (outer:List Env) (s:Shared) (H:Hp) (args:Args) (us:List Value) (vs:List V) (Q:VK) (E:XK),jw k A->CK P w K mg base A outer s H->BindsTo s fd args (ps.zip us)->cI vs us->sp vs H Q E →
  codeAny (model P w) A (.call (.ref f) args) (CR CX outer P w H s Q E) s
theorem CK.make {K:FG9} (e:CK P w K mg base A outer s H) (C:Addr) (us:List Value) (kw:List (Str×Value)) :
  CK P w K mg base (A.under (.builtin "type.__call__" ⟨.ref C :: us,kw⟩)) outer s H:=⟨by first | exact e.frames | (simpa [Around.under,Code.envs,Code.isFrame,pushEnvs] using e.frames),e.mod,e.bs,e.bsz,e.funs,e.frf,e.hok,e.bare⟩
section
variable {X:Cx} {pins:List (Addr×Obj)} {σ:St} {H:Hp} {s s':Shared}
theorem Inv.env0 (I:Inv X pins σ H s):CK X.prog X.w X.K X.mg X.base X.A X.stack s H :=
 ⟨I.ok.frames,I.ok.mod,I.bs,ai I.ok.bsz I.sz,I.stack,I.stkFree,I.hok,I.bare⟩
theorem Inv.after (I:Inv X pins σ H s) (h:CE X.stack X.prog X.w H s Q u s'):EP X pins σ Q u s':=by
 obtain ⟨v,H',os,bare,un,hok,r,q⟩:=h;obtain ⟨hh,g,d,t,os'⟩:=s';obtain rfl:os'=s.os:=os;exact ⟨v,H',I.call (h':=hh) (g':=g) (d':=d) (t':=t) (ch:=[]) un hok bare (λb z=>absurd z (by simp)),r,q⟩
end
def Fn (sp:Sp) (dvs:List V) (E:XK) (t:TA):TE:=λσ H Q=>t σ H λvs H1=>sp (vs++dvs) H1 Q E
def JF (C:Addr) (m:Str) (sp:Sp) (dvs:List V) (E:XK) (ta:TE) (t:TA):TE:=λσ H Q=>ta σ H λx H1=>∃a dx fs,x=.ref a/\H1 a=some (.ins C dx fs)/\fs.lookup m=none /\
 t σ H1 λvs H2=>sp (x :: (vs++dvs)) H2 Q E
def JG (C:Addr) (sp:Sp) (dvs:List V) (E:XK) (t:TA):TE:=λσ H Q=>t σ H λvs H1=>∀x dx,H1 x=none->H1 dx=none->dx≠x →
 sp (.ref x :: (vs++dvs)) (upd (upd H1 dx (.own x)) x (.ins C dx [])) (λv H2=>v=.non/\Q (.ref x) H2) E
def Binds (K:FG9) (fd:FuncData) (ps:List Str) (ds:List Value):Prop :=
 ∀(s:Shared) (us:List Value),K.In s.heap->(us++ds).length=ps.length->BindsTo s fd ⟨us,[]⟩ (ps.zip (us++ds))
theorem Binds.all {K:FG9} (h:∀us:List Value,us.length=ps.length->bindArgs fd ⟨us,[]⟩=pure (ps.zip us)):Binds K fd ps []:=λs us _ hl=>by
 rw[mQ] at hl ⊢;exact .of_eq (h us hl)
def tF (CX:Hs) (X:Cx) (E:XK):Prop:=∀(pins:List (Addr×Obj)) (σ:St) (H:Hp) (s:Shared) (e:Value) (s':Shared),Inv X pins σ H s->CX X.stack H s E e s'->X.xe e s'
section
variable {X:Cx} {CX:Hs} {k:Nat} {f C:Addr} {fd:FuncData} {ps:List Str} {sp:Sp} {dvs:List V} {ds:List Value} {E:XK} {x m:Str} {p pos apos:Pos} {e o:Expr} {es:List Expr} {ta:TE} {t:TA}
theorem FA {σ:St} (F:cE X.prog X.w X.K X.mg X.base CX k f fd ps sp) (hr:jw k X.A) (hb:Binds X.K fd ps ds) (hd:cI dvs ds) (hx:tF CX X E)
  (I:Inv X pins σ H s) (r:cI vs us) (h:sp (vs++dvs) H Q E):wpAny (model X.prog X.w) X.A (call (.ref f) us) (EP X pins σ Q) X.xe s:=by
 have r2:cI (vs++dvs) (us++ds):=r.append hd;have hl:(us++ds).length=ps.length:=by rw[<- r2.length];exact F.len _ _ _ _ h
 refine wpAny_call (codeAny_mono (F.run X.A X.stack s H ⟨us,[]⟩ (us++ds) (vs++dvs) Q E hr I.env0 (hb s us I.kIn hl) r2 h) λr s' hq=>?_);cases r with
 | error e=>exact hx pins σ H s e s' I hq
 | ok fl =>
  cases fl with
  | ret u=>exact I.after hq
  | next=>exact False.elim hq
  | brk=>exact False.elim hq
  | cont=>exact False.elim hq
theorem IX (F:cE X.prog X.w X.K X.mg X.base CX k f fd ps sp) (hr:jw k X.A) (hg:Gl X x) (hm:X.mg x=some (.ref f)) (hk:PySem.W.keepIn X.K (.ref f)=true) (hb:Binds X.K fd ps ds) (hd:cI dvs ds) (hx:tF CX X E)
  (ha:PA X (e :: es) t) (hdb:(x == ("__debug__":Str))=false:=by decide) (he:starEach (e :: es) X.env=(false,eval e X.env) :: starEach es X.env:=by rfl) (hpl:(backTo pos (starEach es X.env)).any (·.1)=false:=by rfl) :
  PE X (.Call (.Name x p) (e :: es) [] pos) (Fn sp dvs E t):=by
 intro pins s σ H Q I h;refine wpAny_Call_Name_kw (zC I hg hm ?_ hdb);refine BB (h₀:=X.base) I.ok.mod.kin hk (fB (ha pos pins s σ H _ I h) λus s1 ⟨vs,H1,I1,r,q⟩=>⟨I1.kIn,?_⟩) he hpl;exact FA F hr hb hd hx I1 r q
theorem IU {pl : Sem Bool} (he : PE X o ta) (c : E8 X.K C) (hm : Lo X.K C m f) (F : cE X.prog X.w X.K X.mg X.base CX k f fd ps sp) (hr : jw k X.A) (hb : Binds X.K fd ps ds) (hd : cI dvs ds) (hx : tF CX X E) (ha : PA X (e :: es) t)
    (hst : starEach (e :: es) X.env = (false, eval e X.env) :: starEach es X.env := by rfl) (hpl : (backTo pos (starEach es X.env)).any (·.1) = false := by rfl)
    (ht : eval (.Call (.Attribute o m apos) (e :: es) [] pos) X.env = (do
      let ov <- eval o X.env
      standAt apos.atName
      let (f, first) <- holding [ov] (getMethod ov m pl)
      callWith pos f first (backTo pos (starEach (e :: es) X.env)) (backToKw pos (keywordEach [] X.env))) := by rfl) :
    PE X (.Call (.Attribute o m apos) (e :: es) [] pos) (JF C m sp dvs E ta t) := by
  intro pins s σ H Q I h;refine PySem.W.methodCall_KW (pl := pl) (fB (he pins s σ H _ I h) λu s1 ⟨x, H1, I1, rx, a, dx, fs, ex, ea, l, q⟩ => ?_) ht;subst ex;obtain rfl : u = Value.ref a := rx;refine Cq I1 ea c hm l ?_;refine BB (first := [.ref a]) (h₀ := X.base) I.ok.mod.kin hm.kp (fB (ha pos pins s1 σ H1 _ I1 q) λus s2 ⟨vs, H2, I2, r, q2⟩ => ⟨I2.kIn, ?_⟩) hst hpl;exact FA (us := .ref a :: us) (vs := .ref a :: vs) F hr hb hd hx I2 (.cons rfl r) q2
structure Mk (K:FG9) (C f:Addr):Prop where
 makes:PySem.W.makesIn K C=true
 init:PySem.W.findIn K (.ref C) "__init__"=some (some (.ref f))
 fn:PySem.W.isFn K (.ref f)=true
 kp:PySem.W.keepIn K (.ref C)=true
theorem Fz {σ:St} (M:Mk X.K C f) (F:cE X.prog X.w X.K X.mg X.base CX k f fd ps sp) (hr:jw (k+1) X.A) (hb:Binds X.K fd ps ds) (hd:cI dvs ds)
  (hx:tF CX X E) (I:Inv X pins σ H s) (r:cI vs us)
  (h:∀x dx,H x=none->H dx=none->dx≠x->sp (.ref x :: (vs++dvs)) (upd (upd H dx (.own x)) x (.ins C dx [])) (λv H2=>v=.non/\Q (.ref x) H2) E) :
  wpAny (model X.prog X.w) X.A (call (.ref C) us) (EP X pins σ Q) X.xe s:=by
 have hq:=h (s.heap.objs.size+1) s.heap.objs.size (I.hok.fresh (yK _)) (I.hok.fresh (av _)) (cC (gh _));have I2:=Inv.made (C:=C) I;have r2:cI (V.ref (s.heap.objs.size+1) :: (vs++dvs)) (Value.ref (s.heap.objs.size+1) :: (us++ds)):=.cons rfl (r.append hd)
 have hl:(Value.ref (s.heap.objs.size+1) :: us++ds).length=ps.length:=by
  have e:=r2.length;rw[F.len _ _ _ _ hq] at e;exact e.symm
 refine wpAny_call (F3 (f:=f) I.kIn M.makes M.init (beq_iff_eq.mp M.fn) (codeAny_mono (F.run _ X.stack _ _ ⟨Value.ref (s.heap.objs.size+1) :: us,[]⟩ (Value.ref (s.heap.objs.size+1) :: (us++ds)) _ _ E (hr.make C us [])
  (I2.env0.make C us []) (hb _ (Value.ref (s.heap.objs.size+1) :: us) I2.kIn hl) r2 hq) λr s' hq'=>?_))
 cases r with
 | error e=>exact hx pins σ _ _ e s' I2 hq'
 | ok fl =>
  cases fl with
  | ret u =>
   obtain ⟨v,H',I3,rv,ev,q3⟩:=I2.after hq';subst ev;exact ⟨rv,⟨V.ref (s.heap.objs.size+1),H',I3,rfl,q3⟩⟩
  | next=>exact False.elim hq'
  | brk=>exact False.elim hq'
  | cont=>exact False.elim hq'
theorem IV (M:Mk X.K C f) (F:cE X.prog X.w X.K X.mg X.base CX k f fd ps sp) (hr:jw (k+1) X.A) (hg:Gl X x) (hm:X.mg x=some (.ref C)) (hb:Binds X.K fd ps ds) (hd:cI dvs ds) (hx:tF CX X E)
  (ha:PA X (e :: es) t) (hdb:(x == ("__debug__":Str))=false:=by decide) (he:starEach (e :: es) X.env=(false,eval e X.env) :: starEach es X.env:=by rfl) (hpl:(backTo pos (starEach es X.env)).any (·.1)=false:=by rfl) :
  PE X (.Call (.Name x p) (e :: es) [] pos) (JG C sp dvs E t):=by
 intro pins s σ H Q I h;refine wpAny_Call_Name_kw (zC I hg hm ?_ hdb);refine BB (h₀:=X.base) I.ok.mod.kin M.kp (fB (ha pos pins s σ H _ I h) λus s1 ⟨vs,H1,I1,r,q⟩=>⟨I1.kIn,?_⟩) he hpl;exact Fz M F hr hb hd hx I1 r q
end
structure a9 (N P:List Str) (sc:Scope):Prop where
 kind:sc.kind=.function
 co:sc.isCoroutine=false
 gen:sc.isGenerator=false
 nd:N.Nodup
 pre:N.take P.length=P
 par:∀x∈P,sc.names.lookup x=some .local\/sc.names.lookup x=some .cell
 nofree:∀y∈sc.names,y.2≠.free
theorem yy {kindOf:Str->Option NameKind} {x:Str}:∀{binds:List (Str×Value)} {m:Str->Option Value},(∀v,(x,v)∉binds)->bindL kindOf binds m x=m x
 | [],_,_=>rfl
 | (n,v) :: r,m,h=>by
  unfold bindL;rw[yy λw hw=>h w (ba _ hw)]
  split
  ·have:x≠n:=by rintro rfl;exact h v cu
   simp [this]
  ·rfl
theorem yA {kindOf:Str->Option NameKind} {x:Str}:∀{binds:List (Str×Value)} {m:Str->Option Value},(∀v,(x,v)∉binds)->bindC kindOf binds m x=m x
 | [],_,_=>rfl
 | (n,v) :: r,m,h=>by
  unfold bindC;rw[yA λw hw=>h w (ba _ hw)]
  split
  ·rfl
  ·have:x≠n:=by rintro rfl;exact h v cu
   simp [this]
theorem yz {kindOf:Str->Option NameKind} {x:Str} {v:Value}:∀{P:List Str} {vs:List Value} {i:Nat} {m:Str->Option Value},P.Nodup->P[i]?=some x->vs[i]?=some v->kindOf x=some .local →
  bindL kindOf (P.zip vs) m x=some v
 | [],_,_,_,_,h,_,_=>by simp at h
 | _ :: _,[],_,_,_,_,h,_=>by simp at h
 | p :: P,w :: vs,0,m,nd,h1,h2,hk=>by
  simp at h1 h2;subst h1;subst h2;show bindL kindOf ((p,w) :: P.zip vs) m p=_
  unfold bindL;rw[yy λv hv=>(dJ.mp nd).1 (Hv hv).1,if_pos hk];simp
 | p :: P,w :: vs,i+1,m,nd,h1,h2,hk=>by
  show bindL kindOf ((p,w) :: P.zip vs) m x=_
  unfold bindL;exact yz (i:=i) (dJ.mp nd).2 (by simpa using h1) (by simpa using h2) hk
theorem yB {kindOf:Str->Option NameKind} {x:Str} {v:Value}:∀{P:List Str} {vs:List Value} {i:Nat} {m:Str->Option Value},P.Nodup->P[i]?=some x->vs[i]?=some v->kindOf x≠some .local →
  bindC kindOf (P.zip vs) m x=some v
 | [],_,_,_,_,h,_,_=>by simp at h
 | _ :: _,[],_,_,_,_,h,_=>by simp at h
 | p :: P,w :: vs,0,m,nd,h1,h2,hk=>by
  simp at h1 h2;subst h1;subst h2;show bindC kindOf ((p,w) :: P.zip vs) m p=_
  unfold bindC;rw[yA λv hv=>(dJ.mp nd).1 (Hv hv).1,if_neg hk];simp
 | p :: P,w :: vs,i+1,m,nd,h1,h2,hk=>by
  show bindC kindOf ((p,w) :: P.zip vs) m x=_
  unfold bindC;exact yB (i:=i) (dJ.mp nd).2 (by simpa using h1) (by simpa using h2) hk
def start (N:List Str) (vs:List V):St:=vs.map some++List.replicate (N.length - vs.length) none
def EW (CX:Hs) (P:Program) (w:World) (K:FG9) (mg:Str->Option Value) (base:Heap) (N:List Str) (qual:Str) (scope:Scope) (f:Addr) (cd:Value) (A:Around) (outer:List Env) (s:Shared) (H:Hp) (E:XK):Cx where
 prog:=P
 w:=w
 K:=K
 mg:=mg
 base:=base
 A:=A.deeper (envOfC qual scope s.heap.objs.size f cd)
 N:=N
 s₀:=s
 H₀:=H
 env:=envOfC qual scope s.heap.objs.size f cd
 outer:=outer
 stack:=envOfC qual scope s.heap.objs.size f cd :: outer
 ex:=[]
 calm:=true
 fn:=λ_=>true
 pn:=[]
 xe:=λe s'=>wpAny (model P w) (A.deeper (envOfC qual scope s.heap.objs.size f cd)) (leaving (envOfC qual scope s.heap.objs.size f cd) e) (λ_ s''=>CX outer H s E e s'') (λe' s''=>CX outer H s E e' s'') s'
theorem A5 {sc:Scope} (h:sc.names.lookup x=some .cell):∃c,(cellsFrom n sc.names []).lookup x=some c:=by
 have q:=vb sc.names n [] (.inl h);exact LC.mp q
theorem EO {K:FG9} 
  (S:a9 N ps scope) (hd:A.handled=none) (e0:CK P w K mg base A outer s H) (hl:vs.length=ps.length) (r:cI vs us)
  (x:InCallC s s.heap.objs.size (bindL (envOfC qual scope s.heap.objs.size f cd).kindOf (ps.zip us) λ_=>none) (cellsFrom (s.heap.objs.size+1) scope.names []) (bindC (envOfC qual scope s.heap.objs.size f cd).kindOf (ps.zip us) λ_=>none) s1) :
  Inv (EW CX P w K mg base N qual scope f cd A outer s H E) [] (start N vs) H s1:=by
 have hpl:ps.length<=N.length:=by have:=congrArg List.length S.pre;rw[bX] at this;lia
 obtain ⟨h1,tk,rfl,hk⟩:=x.done;have noA:∀b:Addr,b∉(EW CX P w K mg base N qual scope f cd A outer s H E).ex:=λb z=>absurd (show b∈([]:List Addr) from z) (by simp)
 refine ⟨⟨e0.mod,S.kind,rfl,rfl,av _,λy z c h1 h2=>?_,λy hy=>?_,λy c _ h=>?_,λ_=>hd,Around.frames_deeper e0.frames,.inr ⟨rfl,rfl⟩,λb z=>absurd z (noA b),e0.bs,e0.bsz,λb _ _=>noA b,λb z=>absurd z (noA b),e0.funs,e0.frf⟩,
  rfl,e0.bare,Un.kept hk,⟨_,x.toInCall.ns,λi y v h1 h2 h3=>?_⟩,λy c h=>⟨_,x.cell y c h⟩,e0.hok.fresh (av _),λy c h=>?_,λp hp=>absurd (show p∈([]:List (Addr×Obj)) from hp) (by simp),e0.hok.kept hk,?_⟩
 ·exact name_of_addr x.apart (jq h1) (jq h2)
 ·have hy:scope.names.lookup y=some .cell\/scope.names.lookup y=some .free:=hy;rcases hy with hy | hy
  ·exact A5 hy
  ·exact absurd rfl (S.nofree _ (jq hy))
 ·exact bf (x.above y c (jq h))
 ·have hi:i < vs.length:=by
   unfold start at h2;by_cases hi:i < vs.length
   ·exact hi
   ·rw[bV (by simpa using hi)] at h2;rw[gi] at h2
    split at h2 <;> cases h2
  have ha:vs[i]?=some v:=by
   unfold start at h2;rw[cz (by simpa using hi),aB] at h2;cases e:vs[i]? with
   | none=>rw[e] at h2;cases h2
   | some a=>rw[e] at h2;cases h2;rfl
  obtain ⟨u,hu,rv⟩:=r.get ha
  have hp:ps[i]?=some y:=by
   rw[<- S.pre,jy (by lia)];exact h1
  have ndP:ps.Nodup:=by rw[<- S.pre];exact S.nd.sublist (List.take_sublist _ _)
  refine ⟨u,rv,?_⟩;rcases S.par y (ar hp) with k | k
  ·exact .inl ⟨k,yz ndP hp hu k⟩
  ·obtain ⟨c,e⟩:=A5 (n:=s.heap.objs.size+1) k;refine .inr ⟨.inl k,c,e,?_⟩;have q:=x.cell y c e;rw[yB ndP hp hu (by show scope.names.lookup y≠_;rw[k];decide)] at q;exact q
 ·exact e0.hok.fresh (bf (x.above y c (jq h)))
 ·unfold start;show _=N.length
  rw[ax,ak,aL]
  lia
theorem Mt {K:FG9} {dV kV doc pm cdv ct oc:Value} 
 (lk:K.lookup f=some ⟨oc,od,.func (PySem.W.fnOf name qual params body scope dV kV doc pm an cdv ct),osl⟩) (hcd:PySem.W.codeIn K cdv qual=true) (S:a9 N ps scope)
  (len:∀vs H Q E,sp vs H Q E->vs.length=ps.length)
  (hbody:∀(A:Around) (outer:List Env) (s:Shared) (H:Hp) (vs:List V) (Q:VK) (E:XK),jw k (A.deeper (envOfC qual scope s.heap.objs.size f cdv))->sp vs H Q E →
   ∃t,CG (EW CX P w K mg base N qual scope f cdv A outer s H E) body t/\t { nx:=λ_ H'=>Q .non H',rt:=Q } (start N vs) H) :
  cE P w K mg base CX (k+1) f (PySem.W.fnOf name qual params body scope dV kV doc pm an cdv ct) ps sp:=by
 refine ⟨len,λA outer s H args us vs Q E hr e0 hb r hsp=>?_⟩;have hl:=len _ _ _ _ hsp;have KX:K.In s.heap:=e0.mod.kin.keeps λb o e=>(e0.bs b o e).1
 have lim:s.heap.NoLimit:=e0.mod.nolimit.keeps λb o e=>(e0.bs b o e).1
 have hkind:∀y∈ps.zip us,scope.names.lookup y.1=some .local\/(scope.names.lookup y.1=some .cell/\((cellsFrom (s.heap.objs.size+1) scope.names []).lookup y.1).isSome=true):=λ⟨n,v⟩ hy=>by
  rcases S.par n (Hv hy).1 with q | q
  ·exact .inl q
  ·exact .inr ⟨q,vb _ _ _ (.inl q)⟩
 refine codeAny_call_function hr.depth (KX _ _ lk) rfl S.co S.gen rfl (PySem.W.codeRec_of KX hcd) (hb _ _ _ _ ?_);refine wpAny_newFunctionEnv_cells S.kind hkind λenv he s1 x=>?_
 subst he;refine ⟨lim.keeps x.toInCall.keep,codeAny_func ?_⟩;obtain ⟨t,ht,hq⟩:=hbody A outer s H vs Q E (hr.deeper _) hsp;have I:Inv (EW CX P w K mg base N qual scope f cdv A outer s H E) [] (start N vs) H s1:=EO S hr.hd e0 hl r x;refine wpAny_mono (ht [] s1 (start N vs) H _ I hq) (λfl s' hs=>?_) λe s' hs=>hs
 have fin:∀{σ':St} {H':Hp} {v:V} {u:Value},Inv (EW CX P w K mg base N qual scope f cdv A outer s H E) [] σ' H' s'->RelV v u->Q v H'->CE outer P w H s Q u s' :=
  λ{σ' H' v u} J rv q=>⟨v,H',J.os,J.bare,J.base,J.hok,rv,q⟩
 cases fl with
 | ret u =>
  obtain ⟨v,σ',H',J,rv,q⟩:=hs;exact fin J rv q
 | next =>
  obtain ⟨σ',H',J,q⟩:=hs;exact fin (v:=V.non) (u:=Value.none) J rfl q
 | brk =>
  obtain ⟨_,_,_,q⟩:=hs;exact False.elim q
 | cont =>
  obtain ⟨_,_,_,q⟩:=hs;exact False.elim q
section
variable {X:Cx} {x:Str} {p pos:Pos} {e:Expr} {es:List Expr} {t:TA} {id T:String} {r:List V->Hp->VK->Prop}
def MS (r:List V->Hp->VK->Prop) (t:TA):TE:=λσ H Q=>t σ H λvs H1=>r vs H1 Q
theorem bO (hc:mJ X (.builtin id) r) (hg:Gl X x) (hm:X.mg x=none) (hv:bootBuiltins x=some (.builtin id)) (ha:PA X (e :: es) t) (hn:x≠"__name__":=by decide) (hdb:(x == ("__debug__":Str))=false:=by decide)
  (he:starEach (e :: es) X.env=(false,eval e X.env) :: starEach es X.env:=by rfl) (hpl:(backTo pos (starEach es X.env)).any (·.1)=false:=by rfl):PE X (.Call (.Name x p) (e :: es) [] pos) (MS r t):=by
 intro pins s σ H Q I h;refine wpAny_Call_Name_kw (jv I hg hm hv ?_ hn hdb);exact PyProof.Rows.callWith_builtin1 (fB (ha pos pins s σ H _ I h) λus s1 ⟨vs,H1,I1,r1,q1⟩=>hc pins s1 σ H1 vs us Q I1 r1 q1) he hpl
theorem fz (hc:mJ X (.type T) r) (hg:Gl X x) (hm:X.mg x=none) (hv:bootBuiltins x=some (.type T)) (ha:PA X (e :: es) t) (hn:x≠"__name__":=by decide) (hdb:(x == ("__debug__":Str))=false:=by decide)
  (he:starEach (e :: es) X.env=(false,eval e X.env) :: starEach es X.env:=by rfl) (hpl:(backTo pos (starEach es X.env)).any (·.1)=false:=by rfl):PE X (.Call (.Name x p) (e :: es) [] pos) (MS r t):=by
 intro pins s σ H Q I h;refine wpAny_Call_Name_kw (jv I hg hm hv ?_ hn hdb);exact PyProof.Rows.callWith_type1 (fB (ha pos pins s σ H _ I h) λus s1 ⟨vs,H1,I1,r1,q1⟩=>hc pins s1 σ H1 vs us Q I1 r1 q1) he hpl
end
end L2
namespace HT
open PySem PyProof.Rows
section
open PySem.SeqAt
open PySem.AutoSeq1 (wpAny_loadPart')
open PySem.MeetsSeq PySem.MeetsSeq2 PySem.MeetsSeq3
end
section
variable {prog:Program} {w:World} {A:Around} {E:Value->Shared->Prop} {s:Shared}
def AA (n d:Nat):Option Int->Nat
 | none=>d
 | some v=>if v < 0 then (v+(n:Int)).toNat else min v.toNat n
theorem Az (n d:Nat):AA n d none=d:=rfl
theorem Dd (n d k:Nat):AA n d (some (k:Int))=min k n:=by
 show (if (k:Int) < 0 then ((k:Int)+(n:Int)).toNat else min (k:Int).toNat n)=min k n
 rw[if_neg (by lia),Int.toNat_natCast]
end
end HT
namespace L2
open PySem PySem.Spec PyProof.Rows
abbrev TO:=St->Hp->(Option Int->Hp->Prop)->Prop
def PO (X:Cx) (e:Option Expr) (t:TO):Prop :=
 ∀(pins:List (Addr×Obj)) (s:Shared) (σ:St) (H:Hp) (Q:Option Int->Hp->Prop),Inv X pins σ H s->t σ H Q →
  wpAny (model X.prog X.w) X.A (evalPart e X.env) (λu s'=>∃o H',Inv X pins σ H' s'/\IsPart u o/\Q o H') X.xe s
def CT:TO:=λ_ H Q=>Q none H
def JC (t:TE):TO:=λσ H Q=>t σ H λx H1=>∃i,x=.int i/\Q (some i) H1
theorem intsAre_of:∀{us:List Value},cI (ns.map V.int) us->IntsAre us ns:=by
 induction ns with
 | nil=>intro us r;rw[List.map_nil] at r;cases r;exact .nil
 | cons n ns ih =>
  intro us r;rw[dZ] at r;cases r with
  | cons r1 r2 =>
   obtain ⟨t,e⟩:=r1;subst e;exact .cons n t (ih r2)
section
variable {X:Cx} {e:Expr} {te:TE} {lo hi:Option Expr} {tl th:TO} {pos p2:Pos}
theorem Dn:PO X none CT:=by
 intro pins s σ H Q I h;rw[evalPart_none];exact wpAny_pure ⟨none,H,I,.none,h⟩
theorem Dm (h:PE X e te):PO X (some e) (JC te):=by
 intro pins s σ H Q I hw;rw[evalPart_some];refine fB (h pins s σ H _ I hw) λu s1 ⟨x,H1,I1,r1,q1⟩=>?_
 obtain ⟨i,rfl,q⟩:=q1;obtain ⟨t,rfl⟩:=r1;exact ⟨some i,H1,I1,.int i t,q⟩
def SlR (X:Cx) (r:V->Option Int->Option Int->Hp->VK->Prop):Prop :=
 ∀(pins:List (Addr×Obj)) (s:Shared) (σ:St) (H:Hp) (x:V) (v vl vu:Value) (lo hi:Option Int) (sl:Addr) (Q:VK),Inv X pins σ H s->RelV x v->s.heap.IsSliceOf sl vl vu .none->IsPart vl lo->IsPart vu hi->r x lo hi H Q →
  ∃T id,typeLookup (.type T) "__getitem__"=pure (some (.builtin id))/\s.TypeIs v T/\wpAny (model X.prog X.w) X.A (getItem v (.ref sl)) (EP X pins σ Q) X.xe s
def tSl (r:V->Option Int->Option Int->Hp->VK->Prop) (te:TE) (tl th:TO):TE:=λσ H Q=>te σ H λx H1=>tl σ H1 λl H2=>th σ H2 λu H3=>r x l u H3 Q
theorem AH (hr:SlR X r) (he:PE X e te) (hl:PO X lo tl) (hu:PO X hi th):PE X (.Subscript e (.Slice lo hi none p2) pos) (tSl r te tl th):=by
 intro pins s σ H Q I h;refine Subscript_ (fB (he pins s σ H _ I h) λv s1 ⟨x,H1,I1,r1,q1⟩=>?_);refine wpAny_Slice (fB (hl pins s1 σ H1 _ I1 q1) λvl s2 ⟨l,H2,I2,pl,q2⟩=>fB (hu pins s2 σ H2 _ I2 q2) λvu s3 ⟨u,H3,I3,pu,q3⟩=>?_);rw[evalPart_none];refine wpAny_pure ?_;have I4:Inv X pins σ H3 { s3 with heap:=s3.heap.push { cls:=.type "slice",data:=.fields #[vl,vu,.none] } }:=I3.kept (t':=s3.toks) λb ob q=>Heap.get?_push_of_some _ q
 obtain ⟨T,id,hT,ht,hg⟩:=hr pins { s3 with heap:=s3.heap.push { cls:=.type "slice",data:=.fields #[vl,vu,.none] } } σ H3 x v vl vu l u s3.heap.objs.size Q I4 r1 (Heap.IsSliceOf.new ..) pl pu q3;show wpAny (model X.prog X.w) X.A (subscriptTail e (.Slice lo hi none p2) v (.ref s3.heap.objs.size)) (EP X pins σ Q) X.xe { s3 with heap:=s3.heap.push { cls:=.type "slice",data:=.fields #[vl,vu,.none] } }
 exact tail_any (ops:=[.ref s3.heap.objs.size,v]) ht hT hg (by with_unfolding_all rfl)
def qO (xs:List V) (lo hi:Option Int):List V:=(xs.drop (HT.AA xs.length 0 lo)).take (HT.AA xs.length xs.length hi - HT.AA xs.length 0 lo)
theorem ui (xs:List V) (lo hi:Option Int):(qO xs lo hi).length<=xs.length:=by
 unfold qO;rw[bX,List.length_drop]
 lia
end
def E5 (n:Nat) (i:Int):Option Nat:=if 0<=i then (if i < n then some i.toNat else none) else if -(n:Int)<=i then some (i+n).toNat else none
def CA {α:Type} (xs:List α) (i:Int):Option α:=(E5 xs.length i).bind λj=>xs[j]?
theorem DC (h:E5 n i=some j):seqIndex? i n=some j/\j < n/\-(n:Int)<=i/\i < n:=by
 unfold E5 at h;by_cases h0:0<=i
 ·rw[if_pos h0] at h;by_cases h1:i < n
  ·rw[if_pos h1] at h;have e:i.toNat=j:=bY h;exact ⟨by rw[seqIndex_of h0 h1,e],by lia,by lia,h1⟩
  ·rw[if_neg h1] at h;cases h
 ·rw[if_neg h0] at h;by_cases h1:-(n:Int)<=i
  ·rw[if_pos h1] at h;have e:(i+n).toNat=j:=bY h;exact ⟨by rw[seqIndex_neg (by lia) h1,e],by lia,h1,by lia⟩
  ·rw[if_neg h1] at h;cases h
theorem zS {xs:List α} {v:α} (h:CA xs i=some v):∃j,seqIndex? i xs.length=some j/\xs[j]?=some v/\j < xs.length/\-(xs.length:Int)<=i/\i < xs.length:=by
 unfold CA at h;cases e:E5 xs.length i with
 | none=>rw[e] at h;cases h
 | some j =>
  rw[e] at h;obtain ⟨h1,h2,h3,h4⟩:=DC e;exact ⟨j,h1,h,h2,h3,h4⟩
theorem fF {xs:List α} {j:Nat} {v:α} (h:xs[j]?=some v):CA xs (j:Int)=some v:=by
 have hj:j < xs.length:=(aV.mp h).1
 have e:E5 xs.length (j:Int)=some j:=by
  unfold E5;rw[if_pos (by lia),if_pos (by lia)];simp
 unfold CA;rw[e];exact h
theorem Be (xs:List α) (v:α):CA (xs++[v]) (-1)=some v:=by
 have hl:(xs++[v]).length=xs.length+1:=by simp
 have e:E5 (xs++[v]).length (-1)=some xs.length:=by
  unfold E5;rw[hl,if_neg (by decide),if_pos (by lia)];congr 1
  lia
 unfold CA;rw[e];show (xs++[v])[xs.length]?=some v
 simp
def Jy (b:Expr):Prop:=∀o i,subscripted b false o i=operate [o,i] (getItem o i)
def MC (X:Cx) (r:R2):Prop :=
 ∀(value slice:Expr) (pins:List (Addr×Obj)) (s:Shared) (σ:St) (H:Hp) (x y:V) (v u:Value) (Q:VK),Inv X pins σ H s->RelV x v->RelV y u->r x y H Q →
  subscripted slice false v u=operate [v,u] (getItem v u)->wpAny (model X.prog X.w) X.A (subscriptTail value slice v u) (EP X pins σ Q) X.xe s
def MtR (X:Cx) (id:String) (r:V->List V->Hp->VK->Prop):Prop :=
 ∀(pins:List (Addr×Obj)) (s:Shared) (σ:St) (H:Hp) (x:V) (xs:List V) (v:Value) (us:List Value) (Q:VK),Inv X pins σ H s->RelV x v->cI xs us->r x xs H Q →
  wpAny (model X.prog X.w) X.A (call (.builtin id) (v :: us)) (EP X pins σ Q) X.xe s
section
variable {X:Cx} {a b:Expr} {ta tb:TE} {pos:Pos}
theorem aS {r:R2} (hr:MC X r) (ha:PE X a ta) (hb:PE X b tb) (hs:Jy b:=by intro _ _;rfl):PE X (.Subscript a b pos) (LM r ta tb):=by
 intro pins s σ H Q I h;exact Subscript_ (Ll ha hb I h λv u s2 x y H2 I2 rx ry q=>hr a b pins s2 σ H2 x y v u Q I2 rx ry q (hs _ _))
def KP (K:FG9):R2:=λx y H Q=>∃p xs i v,x=.ref p/\y=.int i/\bL K H p xs/\CA xs i=some v/\Q v H
def KO (K:FG9):R2:=λx y H Q=>∃p xs i v,x=.ref p/\y=.int i/\mB K H p xs/\CA xs i=some v/\Q v H
theorem bw:MC X (KP X.K):=by
 intro value slice pins s σ H x y v u Q I rx ry h hs;obtain ⟨p,xs,i,z,rfl,rfl,hq,he,q⟩:=h;cases rx;obtain ⟨t,rfl⟩:=ry;obtain ⟨its,r,pl,hz⟩:=I.list hq;obtain ⟨j,h1,h2,h3,h4,h5⟩:=zS he;obtain ⟨w,ew,rw'⟩:=r.get h2;have hl:=r.length;have hn:=wu;have fin:EP X pins σ Q w s:=⟨z,H,I,rw',q⟩;by_cases h0:0<=i
 ·have hj:i.toNat=j:=by
   rw[seqIndex_of h0 h5] at h1;exact bY h1
  exact item_listR pl.isList h0 (by lia) (by rw[hj];simpa using ew) fin hs
 ·have hj:(i+(its.toArray.size:Int)).toNat=j:=by
   rw[seqIndex_neg (by lia) h4] at h1;rw[aT,<- hl];exact bY h1
  exact subscriptTail_builtinR (x:=w) pl.isList.typeIs slot_list_getitem.lookup
   (wpAny_getItem_list_neg (Q:=λr s'=>r=w/\EP X pins σ Q r s') pl.isList (by lia) (by rw[aT] <;> lia) (by lia) (by rw[hj];simpa using ew) ⟨rfl,fin⟩) hs
theorem bC:MC X (KO X.K):=by
 intro value slice pins s σ H x y v u Q I rx ry h hs;obtain ⟨p,xs,i,z,rfl,rfl,hq,he,q⟩:=h;cases rx;obtain ⟨t,rfl⟩:=ry;obtain ⟨its,r,pl,hz⟩:=I.tuple hq;obtain ⟨j,h1,h2,h3,h4,h5⟩:=zS he;obtain ⟨w,ew,rw'⟩:=r.get h2;have hl:=r.length;have hn:=wu;have fin:EP X pins σ Q w s:=⟨z,H,I,rw',q⟩
 exact subscriptTail_builtinR (x:=w) pl.typeIs slot_tuple_getitem.lookup
  (getItem_tuple (j:=j) (Q:=λr s'=>r=w/\EP X pins σ Q r s') pl (by lia) (by lia) (by rw[aT,<- hl];exact h1) (by simpa using ew) ⟨rfl,fin⟩) hs
theorem Ci (its:List Value) (n j:Nat) (u:Value):Obj.mapSeq (·.setIfInBounds j u) { cls:=.type "list",data:=.seq its.toArray n }={ cls:=.type "list",data:=.seq (its.set j u).toArray n }:=by
 simp [Obj.mapSeq]
theorem Inv.lst {pins:List (Addr×Obj)} {σ:St} {H:Hp} {s:Shared} {p:Addr} {xs:List V} (I:Inv X pins σ H s) (h:H p=some (.lst xs)) :
  ∃(its:List Value) (n:Nat),cI xs its/\s.heap.get? p=some { cls:=.type "list",data:=.seq its.toArray n }/\xs.length<=sizeLine:=by
 obtain ⟨z,its,n,r,e⟩:=I.hok p _ h;exact ⟨its,n,r,e,z⟩
theorem Inv.lstUpd {σ:St} {its its':List Value} (I:Inv X pins σ H s) (h:H p=some (.lst xs))
  (ho:s.heap.get? p=some { cls:=.type "list",data:=.seq its.toArray n }) (hf:f { cls:=.type "list",data:=.seq its.toArray n }={ cls:=.type "list",data:=.seq its'.toArray n' }) (r:cI ys its') (hz:ys.length<=sizeLine) (t:Nat) :
  Inv X pins σ (upd H p (.lst ys)) { s with heap:=s.heap.update p f,toks:=t }:=by
 have e:(s.heap.update p f).get? p=some { cls:=.type "list",data:=.seq its'.toArray n' }:=by
  rw[Heap.get?_update_self f ho (by rw[hf] <;> rfl),hf]
 refine I.write (x:=p) (e:=p) (by rw[h];trivial) (.inl rfl) (λb u hb q=>(Heap.get?_update_other _ _ (Ne.symm hb)).trans q) ⟨_,e⟩ ?_;exact ⟨hz,its',n',r,e⟩
def JK:V->V->V->Hp->(Hp->Prop)->Prop:=λo i v H Q=>∃p xs k j,o=.ref p/\i=.int k/\H p=some (.lst xs)/\E5 xs.length k=some j/\Q (upd H p (.lst (xs.set j v)))
theorem set_list:Lm X JK:=by
 intro pins s σ H o i v ov iv u Q I ro ri rv h;obtain ⟨p,xs,k,j,rfl,rfl,hp,hj,q⟩:=h;cases ro;obtain ⟨t,rfl⟩:=ri;obtain ⟨its,n,r,ho,hz⟩:=I.lst hp;obtain ⟨h1,h2,h3,h4⟩:=DC hj;have hl:=r.length;have hn:=wu
 have I':Inv X pins σ (upd H p (.lst (xs.set j v))) { s with heap:=s.heap.update p (Obj.mapSeq (·.setIfInBounds j u)) } :=
  I.lstUpd hp ho (Ci its n j u) (r.set rv j) (by rw[dM];exact hz) s.toks
 by_cases h0:0<=k
 ·have hk:k.toNat=j:=by
   rw[seqIndex_of h0 h4] at h1;exact bY h1
  exact PySem.W.ki_setAt ho h0 (by lia) (by rw[aT,<- hl];exact h4) (by rw[hk];exact ⟨_,I',q⟩)
 ·have hk:(k+(its.toArray.size:Int)).toNat=j:=by
   rw[seqIndex_neg (by lia) h3] at h1;rw[aT,<- hl];exact bY h1
  exact PySem.W.ki_setBack ho (by lia) (by rw[aT,<- hl];exact h3) (by lia) (by rw[hk];exact ⟨_,I',q⟩)
theorem yV (lo hi:Option Int) (n:Nat):(sliceBounds lo hi none n).1=((HT.AA n 0 lo:Nat):Int)/\(sliceBounds lo hi none n).2.1=((HT.AA n n hi:Nat):Int)/\(sliceBounds lo hi none n).2.2=1:=by
 refine ⟨?_,?_,rfl⟩
 ·cases lo with
  | none=>simp [sliceBounds,HT.AA]
  | some i =>
   simp only[sliceBounds,HT.AA,Option.getD_none,show (1:Int) > 0 by decide,if_true];by_cases h:i < 0
   ·simp only[h,if_true] <;> lia
   ·simp only[h,if_false] <;> lia
 ·cases hi with
  | none=>simp [sliceBounds,HT.AA]
  | some i =>
   simp only[sliceBounds,HT.AA,Option.getD_none,show (1:Int) > 0 by decide,if_true];by_cases h:i < 0
   ·simp only[h,if_true] <;> lia
   ·simp only[h,if_false] <;> lia
theorem xo (its:List Value) (lo hi:Option Int):slicePick its.toArray lo hi none=((its.drop (HT.AA its.length 0 lo)).take (HT.AA its.length its.length hi - HT.AA its.length 0 lo)).toArray:=by
 obtain ⟨h1,h2,h3⟩:=yV lo hi its.toArray.size;unfold slicePick;rw[h1,h2,h3];simp only[sliceRange_one,pick_run,aT] <;> rfl
def Mg (K:FG9):V->Option Int->Option Int->Hp->VK->Prop:=λx lo hi H Q=>∃a xs,x=.ref a/\bL K H a xs/\∀p,H p=none->Q (.ref p) (upd H p (.lst (qO xs lo hi)))
theorem Dc:SlR X (Mg X.K):=by
 intro pins s σ H x v vl vu lo hi sl Q I rx hs pl pu h;obtain ⟨a,xs,rfl,hx,q⟩:=h;cases rx;obtain ⟨its,r,ht,hz⟩:=I.list hx;have hlen:=r.length;refine ⟨"list",_,slot_list_getitem.lookup,ht.isList.typeIs,?_⟩;refine wpAny_getItem_list_slice ht.isList hs pl pu .none (by simp) ?_ (by rw[aT] <;> lia);rw[xo,<- hlen];refine ⟨.ref s.heap.objs.size,_,I.laid (t':=s.toks) (o:=.lst (qO xs lo hi)) (λb ob q=>Heap.get?_push_of_some _ q) (av _) ?_,rfl,q _ (I.hok.fresh (av _))⟩;exact ⟨ai (ui xs lo hi) hz,_,0,(r.drop (HT.AA xs.length 0 lo)).take (HT.AA xs.length xs.length hi - HT.AA xs.length 0 lo),Heap.get?_push_size _ rfl⟩
def qC:V->Bool
 | .non=>true
 | .bl _=>true
 | .int _=>true
 | .str _=>true
 | _=>false
def JY:V->V->Bool
 | .non,.non=>true
 | .bl a,.bl b=>a == b
 | .bl a,.int b=>(if a then 1 else 0) == b
 | .int a,.bl b=>a == (if b then 1 else 0)
 | .int a,.int b=>a == b
 | .str a,.str b=>a == b
 | _,_=>false
theorem Lg (ry:RelV y u) (rx:RelV x v) (fy:qC y=true) (fx:qC x=true):SeqAt.EqAt A s u v (JY y x):=by
 cases y with
 | non =>
  cases ry;cases x with
  | non=>cases rx;exact SeqAt.EqAt.same _
  | bl b=>cases rx;exact SeqAt.EqAt.none_bool b
  | int b=>obtain ⟨t,rfl⟩:=rx;exact SeqAt.EqAt.none_int b t
  | str b=>obtain ⟨t,rfl⟩:=rx;exact SeqAt.EqAt.none_str b t
  | _=>exact absurd (show false=true from fx) aY
 | bl a =>
  cases ry;cases x with
  | non=>cases rx;exact SeqAt.EqAt.bool_none a
  | bl b=>cases rx;exact SeqAt.EqAt.bool_bool a b
  | int b=>obtain ⟨t,rfl⟩:=rx;exact SeqAt.EqAt.bool_int a b t
  | str b=>obtain ⟨t,rfl⟩:=rx;exact SeqAt.EqAt.bool_str a b t
  | _=>exact absurd (show false=true from fx) aY
 | int a =>
  obtain ⟨t',rfl⟩:=ry;cases x with
  | non=>cases rx;exact SeqAt.EqAt.int_none a t'
  | bl b=>cases rx;exact SeqAt.EqAt.int_bool a t' b
  | int b=>obtain ⟨t,rfl⟩:=rx;exact SeqAt.EqAt.int_int a t' b t
  | str b=>obtain ⟨t,rfl⟩:=rx;exact SeqAt.EqAt.int_str a t' b t
  | _=>exact absurd (show false=true from fx) aY
 | str a =>
  obtain ⟨t',rfl⟩:=ry;cases x with
  | non=>cases rx;exact SeqAt.EqAt.str_none a t'
  | bl b=>cases rx;exact SeqAt.EqAt.str_bool a t' b
  | int b=>obtain ⟨t,rfl⟩:=rx;exact SeqAt.EqAt.str_int a t' b t
  | str b=>obtain ⟨t,rfl⟩:=rx;exact SeqAt.EqAt.str_str a t' b t
  | _=>exact absurd (show false=true from fx) aY
 | _=>exact absurd (show false=true from fy) aY
def Jo (x:V) (u:Value):Bool:=match u with
 | .none=>JY .non x
 | .bool b=>JY (.bl b) x
 | .int i _=>JY (.int i) x
 | .str z _=>JY (.str z) x
 | _=>false
theorem Gw (r:RelV y u) (f:qC y=true):Jo x u=JY y x:=by
 cases y with
 | non=>cases r;rfl
 | bl b=>cases r;rfl
 | int i=>obtain ⟨t,rfl⟩:=r;rfl
 | str z=>obtain ⟨t,rfl⟩:=r;rfl
 | _=>exact absurd (show false=true from f) aY
theorem zT {x:V}:∀{xs:List V} {us:List Value},cI xs us->xs.all qC=true->us.any (Jo x)=xs.any λy=>JY y x
 | _,_,.nil,_=>rfl
 | y :: xs,u :: us,.cons r t,f=>by
  rw[List.all_cons,dq] at f;rw[List.any_cons,List.any_cons,Gw r f.1,zT t f.2]
theorem wg {A:Around} {s:Shared} {x:V} {v:Value} (rx:RelV x v) (fx:qC x=true):∀{xs:List V} {us:List Value},cI xs us->xs.all qC=true->∀u∈us,SeqAt.EqAt A s u v (Jo x u)
 | _,_,.nil,_=>λu hu=>by cases hu
 | y :: xs,u :: us,.cons r t,f=>λu' hu=>by
  rw[List.all_cons,dq] at f;rcases aA.mp hu with rfl | hu
  ·rw[Gw r f.1];exact Lg r rx f.1 fx
  ·exact wg rx fx t f.2 u' hu
def MK (x:V) (xs:List V):Bool:=xs.any λy=>JY y x
def rIn (K:FG9) (neg:Bool):R2:=λx y H Q=>∃p xs,y=.ref p/\(bL K H p xs\/mB K H p xs)/\qC x=true/\xs.all qC=true/\Q (.bl (if neg then !MK x xs else MK x xs)) H
theorem Ez:xi X (compareOp .In) (rIn X.K false):=by
 intro pins s σ H x y v u Q I rx ry h;obtain ⟨p,xs,rfl,hq,fx,fs,q⟩:=h;cases ry;rcases hq with hq | hq
 ·obtain ⟨its,r,pl,hz⟩:=I.list hq;refine SeqAt.in_listAt (Jo x) pl.isList (λw hw=>wg rx fx r fs w (by simpa using hw)) ⟨.bl _,H,I,rfl,?_⟩;rw[show its.toArray.any (Jo x)=its.any (Jo x) by simp,zT r fs];exact q
 ·obtain ⟨its,r,pl,hz⟩:=I.tuple hq;refine SeqAt.in_tupleAt (Jo x) pl (λw hw=>wg rx fx r fs w (by simpa using hw)) ⟨.bl _,H,I,rfl,?_⟩;rw[show its.toArray.any (Jo x)=its.any (Jo x) by simp,zT r fs];exact q
theorem bD:mJ X (.builtin "len") (λxs H Q=>∃p ys,xs=[.ref p]/\(bL X.K H p ys\/mB X.K H p ys)/\Q (.int ys.length) H):=by
 intro pins s σ H xs us Q I r h;obtain ⟨p,ys,rfl,hq,q⟩:=h;obtain ⟨u,rfl,rx⟩:=vals1 r;cases rx;have hn:=wu;rcases hq with hq | hq
 ·obtain ⟨its,r',pl,hz⟩:=I.list hq;have hlen:=r'.length;exact Calls.call_len_list pl.isList (by simp only[aT] <;> lia) ⟨.int ys.length,H,I.tok _,⟨s.toks+1,by rw[aT,hlen]⟩,q⟩
 ·obtain ⟨its,r',pl,hz⟩:=I.tuple hq;have hlen:=r'.length;exact len_tuple pl (by simp only[aT] <;> lia) ⟨.int ys.length,H,I.tok _,⟨s.toks+1,by rw[aT,hlen]⟩,q⟩
theorem my:mJ X (.type "list") (λxs H Q=>∃p ys,xs=[.ref p]/\(bL X.K H p ys\/mB X.K H p ys)/\∀l,H l=none->Q (.ref l) (upd H l (.lst ys))):=by
 intro pins s σ H xs us Q I r h;obtain ⟨p,ys,rfl,hq,q⟩:=h;obtain ⟨u,rfl,rx⟩:=vals1 r;cases rx
 have fin:∀(its:List Value),cI ys its->ys.length<=sizeLine->∀(h':Heap) (c':Nat),(∀b o',s.heap.get? b=some o'->h'.get? b=some o') →
   h'.get? s.heap.objs.size=some { cls:=.type "list",dict:=none,data:=.seq its.toArray c',slots:=#[] }->EP X pins σ Q (.ref s.heap.objs.size) { s with heap:=h' }:=λits r' hz h' c' kp e =>
  ⟨.ref s.heap.objs.size,_,I.laid (t':=s.toks) kp (av _) (show ia X.prog X.w _ h' _ (.lst ys) from ⟨hz,its,c',r',e⟩),rfl,q _ (I.hok.fresh (av _))⟩
 rcases hq with hq | hq
 ·obtain ⟨its,r',pl,hz⟩:=I.list hq;have hlen:=r'.length;obtain ⟨o,ho,hc,n,hd⟩:=pl.isList;exact call_list_seq p (.inl rfl) ho hc hd (λh' c' kp e=>fin its r' hz h' c' kp e) (by simp only[aT] <;> lia)
 ·obtain ⟨its,r',pl,hz⟩:=I.tuple hq;have hlen:=r'.length;obtain ⟨o,ho,hc,n,hd⟩:=pl;exact call_list_seq p (.inr rfl) ho hc hd (λh' c' kp e=>fin its r' hz h' c' kp e) (by simp only[aT] <;> lia)
def MR (K:FG9) (T:String) (x:V) (H:Hp):Prop:=match x with
 | .str _=>T="str"
 | .int _=>T="int"
 | .ref p=>(T="list"/\∃xs,bL K H p xs)\/(T="tuple"/\∃o,K.lookup p=some o/\o.cls=.type "tuple"/\o.dict=none) \/
   (T="dict"/\((∃kvs,H p=some (.dK kvs))\/∃kvs,H p=some (.dT kvs)))\/(T="set"/\∃S n,H p=some (.set S n))
 | _=>False
theorem Ke {σ:St} (I:Inv X pins σ H s) (r:RelV x v) (ty:MR X.K T x H) :
  s.TypeIs v T/\∀a,v=.ref a->∃ob,s.heap.get? a=some ob/\ob.dict=none:=by
 cases x with
 | str z =>
  obtain ⟨t,rfl⟩:=r;cases (show T="str" from ty);exact ⟨typeIs_str s z t,λ_ e=>nomatch e⟩
 | int i =>
  obtain ⟨t,rfl⟩:=r;cases (show T="int" from ty);exact ⟨typeIs_int s i t,λ_ e=>nomatch e⟩
 | ref p =>
  cases r;rcases ty with ⟨rfl,xs,hq⟩ | ⟨rfl,o,hk,hc,hd⟩ | ⟨rfl,hk⟩ | ⟨rfl,S,n,hk⟩
  ·obtain ⟨its,_,pl,_⟩:=I.list hq;refine ⟨pl.isList.typeIs,λa e=>?_⟩;cases e;obtain ⟨o,n,e,c,hd,_⟩:=pl;exact ⟨o,e,hd⟩
  ·refine ⟨⟨o,I.kIn p o hk,hc⟩,λa e=>?_⟩;cases e;exact ⟨o,I.kIn _ o hk,hd⟩
  ·have z:∃o,s.heap.get? p=some o/\o.ExactDict:=by
    rcases hk with ⟨kvs,hk⟩ | ⟨kvs,hk⟩
    ·obtain ⟨_,_,_,_,o,_,_,e,ex,_⟩:=I.hok p _ hk;exact ⟨o,e,ex⟩
    ·obtain ⟨_,_,_,_,o,_,_,e,ex,_⟩:=I.hok p _ hk;exact ⟨o,e,ex⟩
   obtain ⟨o,e,ex⟩:=z;refine ⟨⟨o,e,ex.1⟩,λa e2=>?_⟩;cases e2;exact ⟨o,e,ex.2.1⟩
  ·obtain ⟨o,_,_,_,e,ex,_⟩:=I.hok p _ hk;refine ⟨⟨o,e,ex.1⟩,λa e2=>?_⟩;cases e2;exact ⟨o,e,ex.2.1⟩
 | _=>exact False.elim ty
def tBM (K:FG9) (T:String) (r:V->List V->Hp->VK->Prop) (to:TE) (t:TA):TE:=λσ H Q=>to σ H λx H1=>MR K T x H1/\t σ H1 λxs H2=>r x xs H2 Q
variable {o e:Expr} {es:List Expr} {to:TE} {t:TA} {name:Str} {apos cpos:Pos} {T id:String} {r:V->List V->Hp->VK->Prop}
theorem tI (pa:PlainAttrs T) (slot:Slot T name id) (hty:typeOf (.builtin id)=pure (.type "method_descriptor")) (hm:MtR X id r) (ho:PE X o to) (ha:PA X (e :: es) t)
  (hbase:attributeBase o name X.env (eval o X.env)=eval o X.env:=by rfl)
  (hfew:((backTo cpos (starEach (e :: es) X.env)).all (λx=>!x.1) && (backToKw cpos (keywordEach [] X.env)).all (λx=>x.1.isSome)
   && decide ((e :: es).length+([]:List Keyword).length+(if ([]:List Keyword).isEmpty then 0 else 1) < 30))=true:=by rfl)
  (hline:(apos.endLine == cpos.line)=true:=by rfl) (hs:starEach (e :: es) X.env=(false,eval e X.env) :: starEach es X.env:=by rfl) (hplain:(backTo cpos (starEach es X.env)).any (·.1)=false:=by rfl) :
  PE X (.Call (.Attribute o name apos) (e :: es) [] cpos) (tBM X.K T r to t):=by
 intro pins s σ H Q I h;refine wpAny_Call_method_late hbase hfew hline rfl (fB (ho pins s σ H _ I h) λv s1 ⟨x,H1,I1,r1,ty,q1⟩=>?_);obtain ⟨h1,h2⟩:=Ke I1 r1 ty;refine ⟨T,id,pa,slot,hty,h1,h2,?_⟩;have hA:=ha cpos pins s1 σ H1 _ I1 q1;rw[hs] at hA ⊢;refine Calls.callWith_builtin (by show (false || (backTo cpos (starEach es X.env)).any (·.1))=false;rw[hplain] <;> rfl) (Calls.evalArgs_plain ?_);exact fB hA λus s2 ⟨vs,H2,I2,r2,q2⟩=>hm pins s2 σ H2 x vs v us Q I2 r1 r2 q2
end
def MtM (X:Cx) (id:String) (r:V->List V->Hp->VK->Prop):Prop :=
 ∀(pins:List (Addr×Obj)) (s:Shared) (σ:St) (H:Hp) (x:V) (xs:List V) (v:Value) (us:List Value) (Q:VK),Inv X pins σ H s->RelV x v->cI xs us->r x xs H Q →
  wpAny (model X.prog X.w) X.A (call (.builtin id) (v :: us)) (EP X pins σ Q) X.xe s
theorem cI.one:∀{x:V} {us:List Value},cI [x] us->∃u,us=[u]/\RelV x u
 | _,_,.cons r .nil=>⟨_,rfl,r⟩
theorem cI.rep {xs:List V} {us:List Value} (h:cI xs us):∀k:Nat,cI (List.replicate k xs).flatten (List.replicate k us).flatten
 | 0=>.nil
 | k+1=>by
  rw[eJ,eJ,eo,eo];exact cI.append h (cI.rep h k)
theorem foldl_rep (its:List Value):∀(k:Nat) (acc:List Value),
  List.foldl (λx1 x2=>x1++x2) acc.toArray (List.replicate k its.toArray)=(acc++(List.replicate k its).flatten).toArray
 | 0,acc=>by simp
 | k+1,acc=>by
  have e:acc.toArray++its.toArray=(acc++its).toArray:=by simp
  have e2:(acc++its)++(List.replicate k its).flatten=acc++(List.replicate (k+1) its).flatten:=by
   rw[eJ,eo,cD]
  rw[<- e2,<- foldl_rep its k (acc++its),<- e,eJ,List.foldl_cons]
section
variable {X:Cx} {pins:List (Addr×Obj)} {σ:St} {H:Hp} {s:Shared} {l b:Addr} {xs ys zs:List V}
theorem Inv.lset {its its':List Value} (I:Inv X pins σ H s) (hH:H l=some (.lst xs))
  (e:s.heap.get? l=some { cls:=.type "list",data:=.seq its.toArray n }) (hf:f its.toArray=its'.toArray) (hv:cI ys its') (hz:ys.length<=sizeLine) :
  Inv X pins σ (upd H l (.lst ys)) { s with heap:=s.heap.update l (Obj.mapSeq f),toks:=t' }:=by
 have q:=jg e f;rw[hf] at q;refine I.write (x:=l) (e:=l) (by rw[hH];exact trivial) (.inl rfl) (λb' u hb hu=>(Heap.get?_update_other s.heap (Obj.mapSeq f) (Ne.symm hb)).trans hu) ⟨_,q⟩ ?_;exact ⟨hz,its',_,hv,q⟩
theorem Inv.lnew (I:Inv X pins σ H s) (hv:cI ys its) (hz:ys.length<=sizeLine) :
  Inv X pins σ (upd H s.heap.objs.size (.lst ys)) { s with heap:=s.heap.push { cls:=.type "list",data:=.seq its.toArray },toks:=t' } :=
 I.laid (λ_ _ q=>Heap.get?_push_of_some _ q) (av _) ⟨hz,its,0,hv,Heap.get?_push_size _ rfl⟩
theorem Inv.fresh (I:Inv X pins σ H s):H s.heap.objs.size=none:=I.hok.fresh (av _)
theorem Inv.lstM (I:Inv X pins σ H s) (hH:H l=some (.lst xs)):xs.length<=sizeLine/\∃(its:List Value) (n:Nat),cI xs its/\xs.length=its.length/\s.heap.get? l=some { cls:=.type "list",data:=.seq its.toArray n }:=by
 obtain ⟨z,its,n,r,e⟩:=I.hok l _ hH;exact ⟨z,its,n,r,r.length,e⟩
theorem AK (h:n<=sizeLine):Builtin.List.listTooLong n=false:=by
 unfold Builtin.List.listTooLong;exact decide_eq_false (by lia)
end
section
variable {X:Cx}
def Di:V->List V->Hp->VK->Prop:=λx vs H Q=>∃l xs y,x=.ref l/\vs=[y]/\H l=some (.lst xs)/\xs.length < sizeLine/\Q .non (upd H l (.lst (xs++[y])))
theorem iY:MtM X "list.append" Di:=by
 intro pins s σ H x vs v us Q I rx rv h;obtain ⟨l,xs,y,rfl,rfl,hH,hz,q⟩:=h;cases rx;obtain ⟨u,rfl,ru⟩:=rv.one;obtain ⟨z,its,n,r,hl,e⟩:=I.lstM hH;refine call_meets F.slot_list_append ⟨_,e,rfl⟩ F.entry_list_append (F.args_list_append_2 _ _) (PySem.list_append l its.toArray n u (by rw[aT];lia)) ⟨e,?_⟩;refine ⟨.non,_,I.lset (its':=its++[u]) hH e (by simp) (r.append (.cons ru .nil)) ?_,rfl,q⟩;rw[ax,de]
 lia
def IP:V->List V->Hp->VK->Prop:=λx vs H Q=>∃l b xs zs,x=.ref l/\vs=[.ref b]/\H l=some (.lst xs)/\H b=some (.lst zs)/\xs.length+zs.length<=sizeLine/\Q .non (upd H l (.lst (xs++zs)))
theorem EK:MtM X "list.extend" IP:=by
 intro pins s σ H x vs v us Q I rx rv h;obtain ⟨l,b,xs,zs,rfl,rfl,hH,hB,hz,q⟩:=h;cases rx;obtain ⟨u,rfl,ru⟩:=rv.one;cases ru;obtain ⟨z,its,n,r,hl,e⟩:=I.lstM hH;obtain ⟨z2,its2,n2,r2,hl2,e2⟩:=I.lstM hB;have hsz:its.toArray.size+its2.toArray.size<=sizeLine:=by rw[aT,aT];lia
 have hlong:¬(!its.toArray.isEmpty && Builtin.List.listTooLong (its.toArray.size+its2.toArray.size))=true:=by
  rw[AK hsz,Bool.and_false];exact aY
 refine call_meets F.slot_list_extend ⟨_,e,rfl⟩ F.entry_list_extend (F.args_list_extend_2 _ _)
  (AutoSeq1.list_extend_list_list_0 l its.toArray n b its2.toArray n2 hlong (by rw[aT];lia) (by lia)) ⟨e,e2,?_⟩
 refine ⟨.non,_,I.lset (its':=its++its2) hH e (by simp) (r.append r2) ?_,rfl,q⟩;rw[ax]
 lia
def Mi:R2:=λx y H Q=>∃l b xs zs,x=.ref l/\y=.ref b/\H l=some (.lst xs)/\H b=some (.lst zs)/\xs.length+zs.length<=sizeLine/\∀p,H p=none->Q (.ref p) (upd H p (.lst (xs++zs)))
theorem jR:xi X (binaryOp .Add) Mi:=by
 intro pins s σ H x y v u Q I rx ry h;obtain ⟨l,b,xs,zs,rfl,rfl,hH,hB,hz,q⟩:=h;cases rx;cases ry;obtain ⟨z,its,n,r,hl,e⟩:=I.lstM hH;obtain ⟨z2,its2,n2,r2,hl2,e2⟩:=I.lstM hB;refine PySem.P.add_list e e2 ?_ (by rw[aT,aT];lia);have ea:its.toArray++its2.toArray=(its++its2).toArray:=by simp
 rw[ea];exact ⟨.ref _,_,I.lnew (t':=s.toks) (r.append r2) (by rw[ax];lia),rfl,q _ I.fresh⟩
def Mh:R2:=λx y H Q=>∃l k xs,x=.ref l/\y=.int k/\H l=some (.lst xs)/\-(2^63)<=k/\k < 2^63/\xs.length*k.toNat<=sizeLine /\
 ∀p,H p=none->Q (.ref p) (upd H p (.lst (List.replicate k.toNat xs).flatten))
theorem len_rep {α:Type} (xs:List α) (k:Nat):(List.replicate k xs).flatten.length=k*xs.length:=by
 induction k with
 | zero=>simp
 | succ k ih=>rw[eJ,eo,ax,ih,fG,Ea]
theorem FP:xi X (binaryOp .Mult) Mh:=by
 intro pins s σ H x y v u Q I rx ry h;obtain ⟨l,k,xs,rfl,rfl,hH,h1,h2,hz,q⟩:=h;cases rx;obtain ⟨t,rfl⟩:=ry;obtain ⟨z,its,n,r,hl,e⟩:=I.lstM hH;have hlen:its.toArray.size*k.toNat<=sizeLine:=by rw[aT,<- hl];exact hz
 have hcap:¬its.toArray.size*k.toNat > (2^63 - 1) / 8:=by
  have:(sizeLine:Nat)<=(2^63 - 1) / 8:=by decide
  lia
 have hfit:¬(!Builtin.List.listFitsIndex k)=true:=by
  rw[fitsIndex_both h1 h2];exact aY
 have hlong:¬Builtin.List.listTooLong (its.toArray.size*k.toNat)=true:=by
  rw[AK hlen];exact aY
 have hnew:List.foldl (λx1 x2=>x1++x2) #[] (List.replicate (if its.toArray.isEmpty=true then 0 else k.toNat) its.toArray)=(List.replicate k.toNat its).flatten.toArray:=by
  have f0:∀m:Nat,List.foldl (λx1 x2=>x1++x2) #[] (List.replicate m its.toArray)=(List.replicate m its).flatten.toArray:=λm=>by
   have:=foldl_rep its m [];rw[cM] at this;exact this
  rw[f0];cases its with
  | nil=>simp
  | cons a r'=>rw[if_neg (by simp)]
 refine wpAny_binaryOp_repeat_ref (T:="list") (U:="int") (by decide) ⟨_,e,rfl⟩ (λs'=>typeIs_int s' k t) noFill_list_mul F.fills_int_mul F.slot_int_rmul repeat_list F.slot_int_index.lookup
  (call_meets F.slot_int_rmul (typeIs_int s k t) F.entry_int_rmul (F.args_int_rmul_2 _ _) (int___rmul___int_list k t l its.toArray n)
   ⟨e,rfl,⟨_,e,rfl⟩,call_meets F.slot_list_mul ⟨_,e,rfl⟩ F.entry_list_mul (F.args_list_mul_2 _ _) (AutoListH.list___mul___list_int_3 l its.toArray n k t hfit hcap hlong) ⟨e,?_⟩⟩)
 rw[hnew];exact ⟨.ref _,_,I.lnew (t':=s.toks) (r.rep k.toNat) (by rw[len_rep,cH];exact hz),rfl,q _ I.fresh⟩
end
end L2
namespace Att
open PySem PySem.W PySem.Calls PyProof.Rows
theorem uN:∀(ns:List Int) (vs:List Value),WellAll P h vs (ns.map WData.int)->IntsAre vs ns:=by
 intro ns
 induction ns with
 | nil =>
  intro vs w;rw[List.map_nil] at w;cases w;exact .nil
 | cons n ns ih =>
  intro vs w;rw[dZ] at w;cases w with
  | cons a b =>
   cases a;exact .cons _ _ (ih _ b)
theorem En {l:OpenLaw} (hn:l.most=some n) 
  (hpre:l.row.toRowW.claim.pre args=true) (hwl:WellAll P h vals args) :
  ∃a vs ns,vals=[Value.ref a]/\args=[WData.list (ns.map WData.int)]/\h.get? a=some { cls:=.type "list",data:=.seq vs.toArray }/\IntsAre vs ns/\ns.length<=n:=by
 have hsh:WShape.hasAll [] args [.list .int]=true:=(pre_splitW hpre).1;have hc:l.pre.holds [] { args:=args }=true:=(pre_splitW hpre).2;obtain ⟨d,r,rfl,h1,h2⟩:=hasAllW_cons hsh;obtain rfl:=hasAllW_nil h2;obtain ⟨xs,rfl,h3⟩:=hasW_list h1;obtain ⟨ns,rfl⟩:=items_int h3
 have hlen:ns.length<=n:=by
  unfold OpenLaw.pre at hc
  have h4:(WTm.not (.lt (.lit (.int (n:Int))) (.len (.arg 0)))).holds [] { args:=[.list (ns.map .int)] }=true:=by
   have h4:=(holds_andW hc).1;rw[hn] at h4;exact h4
  have h5:=condW_of h4 (w_not (w_lt w_lit (w_len_list (w_arg rfl))));rw[ak] at h5;refine Nat.le_of_not_lt λq=>?_
  have q':(n:Int) < ((ns.length:Nat):Int):=by lia
  first
   | (rw[decide_eq_true q'] at h5;exact absurd h5 (by decide))
   | (simp at h5;lia)
 cases hwl with
 | cons w1 w2 =>
  cases w2;cases w1 with
  | list ho hall=>exact ⟨_,_,ns,rfl,rfl,ho,uN ns _ hall,hlen⟩
theorem Ew (l:OpenLaw) (args:List WData):l.row.toRowW.claim.post args (.bool true) args=true :=
 postW_of (r:=l.row.toRowW) (X:=(true == true))
  (show WShape.has [] (.bool true) .bool=true by first | rfl | decide | simp [WShape.has,WShape.arms,WShape.armsAll])
  (show (WTm.eq .res (.lit (.bool true))).value [] { args:=args,res:=some (.bool true),after:=args }=some (.bool (true == true)) from w_eq_bool (w_res rfl) w_lit) rfl
theorem A9 {l:OpenLaw} 
  (hn:l.most=some n) (hdf:d.params.defaults=[])
  (call:∀(w:World) (s₀ s₁:Shared) (mg mb:Str->Option Value) (fa:Addr) (o:Obj) (pm cd doc:Value) (a:Addr) (vs:List Value) (ns:List Int),
   Ground q loose [] XP w s₀ mg mb s₁.heap->YP w s₁.heap →
   s₁.heap.get? fa=some o->o.data=.func (docDef d.name d.params d.body d.scope pm cd doc)->s₁.heap.CodeRec cd d.name->mg d.name=some (.ref fa) →
   s₁.heap.get? a=some { cls:=.type "list",data:=.seq vs.toArray }->IntsAre vs ns->ns.length<=n->s₁.gens=#[] →
   codeAny (model l.prog w) callerA (.call (.ref fa) ⟨[.ref a],[]⟩) (λr s'=>r=.ok (.ret (.bool true))/\OldK s₁.heap s'.heap/\s'.os=s₁.os/\AllBare s'.gens) s₁) :
  WalkO q loose XP YP l.row.toRowW d [] (λf vs=>PySem.call f vs):=by
 intro w s₀ s₁ mg mb G Y fa o pm cd doc dV kV ho hd hcd hD hmg hg args vals as hpre hlay hrd hwl hlo;obtain rfl:dV=.none:=Dflts.none hD hdf;obtain rfl:kV=.none:=Dflts.noKw hD;obtain ⟨a,vs,ns,rfl,rfl,hobj,hints,hlen⟩:=En hn hpre hwl;refine enter_call (codeAny_mono (call w s₀ s₁ mg mb fa o pm cd doc a vs ns G Y ho (fd_plain hd) hcd hmg hobj hints hlen hg) λr s' hq=>?_);obtain ⟨rfl,h2,h3,h4⟩:=hq;exact ⟨.inl ⟨.bool true,.bool true,[],rfl,λ_=>rfl,.bool true,Ew l _,λ_=>⟨List.Pairwise.nil,λ_ hm=>(nomatch hm)⟩⟩,h2,h3,h4⟩
section
variable {prog:Program} {w:World} {A:Around} {E:Value->Shared->Prop} {s:Shared} {K:Frag}
end
end Att
namespace L2
open PySem PySem.Spec PyProof.Rows
theorem xM:∀{vs:List Value} {ns:List Int},IntsAre vs ns->cI (ns.map V.int) vs
 | _,_,.nil=>.nil
 | _,_,.cons n t h=>.cons ⟨t,rfl⟩ (xM h)
def Ln (H:Hp):Prop:=∀b,H b=none\/∃o xs,H b=some (.frz o (.lst xs))
theorem F5 {K:FG9} 
  (KX:K.In s₁.heap) (hns:s₁.heap.Ns mainGlobals mg) (hb:s₁.heap.Ns builtinsNs mb) (hbb:∀x:Str,x≠"__name__"->mb x=bootBuiltins x) (hlim:s₁.heap.NoLimit) (hg:s₁.gens=#[])
  (ha:s₁.heap.get? a=some { cls:=.type "list",data:=.seq vs.toArray }) (hi:IntsAre vs ns) (hl:ns.length<=sizeLine) (hr:jw k callerA)
  (F:∀base:Heap,K.In base->base.Ns mainGlobals mg->cE P w K mg base CX k fa fd [x] sp) (hbind:∀(s:Shared) (u:Value),BindsTo s fd ⟨[u],[]⟩ [(x,u)])
  (hsp:∀H:Hp,Ln H->bL K H a (ns.map V.int)->sp [.ref a] H (λv _=>v=.bl true) λ_ _ _=>False)
  (hCX:∀H e s',CX [] H s₁ (λ_ _ _=>False) e s'->False) :
  codeAny (model P w) callerA (.call (.ref fa) ⟨[.ref a],[]⟩) (λr s'=>r=.ok (.ret (.bool true))/\OldK s₁.heap s'.heap/\s'.os=s₁.os/\AllBare s'.gens) s₁:=by
 have rv:=xM hi;have lenV:=hi.length
 have core:∀H:Hp,Ln H->bL K H a (ns.map V.int)->uZ P w H s₁.heap->(∀b,H b≠none->b=a)->(H a≠none->K.lookup a=none) →
   codeAny (model P w) callerA (.call (.ref fa) ⟨[.ref a],[]⟩) (λr s'=>r=.ok (.ret (.bool true))/\OldK s₁.heap s'.heap/\s'.os=s₁.os/\AllBare s'.gens) s₁:=by
  intro H hO hS hok hA hK;have base_of:∀{b:Addr} {o:Obj},s₁.heap.get? b=some o->H b=none->(zE s₁.heap H).get? b=some o:=λe n=>Ge e n
  have noA:∀{b:Addr} {o:Obj} {es:Array DictEntry} {ep:Nat},s₁.heap.get? b=some o->o.data=.dict es ep->H b=none:=λ{b o es ep} e d=>by
   cases q:H b with
   | none=>rfl
   | some u =>
    have e':b=a:=hA b (by rw[q];simp);subst e';rw[ha] at e;cases e;have d':Data.seq vs.toArray _=Data.dict es ep:=d;cases d'
  have nsK:∀{b:Addr} {m:Str->Option Value},s₁.heap.Ns b m->(zE s₁.heap H).Ns b m:=λ{b m} ⟨o,es,ep,e,d,r⟩=>⟨o,es,ep,base_of e (noA e d),d,r⟩
  have hKb:K.In (zE s₁.heap H):=λb o e=>base_of (KX b o e) (by
   cases q:H b with
   | none=>rfl
   | some u =>
    have e':b=a:=hA b (by rw[q];simp);subst e';rw[hK (by rw[q];simp)] at e;cases e)
  have hM:Mod K mg (zE s₁.heap H):=⟨hKb,nsK hns,⟨mb,nsK hb,hbb⟩,let ⟨mc,h1,h2⟩:=hlim;⟨mc,nsK h1,h2⟩⟩;have e0:CK P w K mg (zE s₁.heap H) callerA [] s₁ H:=⟨rfl,hM,λb o e=>Jc e,Nat.le_of_eq (ER _ _),trivial,λb hb=>absurd (show b∈([]:List Addr) from hb) (by simp),hok,.of_eq hg⟩;refine codeAny_mono ((F _ hKb (nsK hns)).run callerA [] s₁ H ⟨[.ref a],[]⟩ [.ref a] [.ref a] _ _ hr e0 (hbind s₁ (.ref a)) (.cons rfl .nil) (hsp H hO hS)) λr s' h=>?_
  cases r with
  | error e=>exact (hCX H e s' h).elim
  | ok fl =>
   cases fl with
   | next=>exact False.elim h
   | brk=>exact False.elim h
   | cont=>exact False.elim h
   | ret u =>
    obtain ⟨v,H',os,bare,un,hok',r',q⟩:=h;have q':v=.bl true:=q;subst q';obtain rfl:u=Value.bool true:=r';refine ⟨rfl,OldK.of_keep λb o e=>?_,os,bare⟩;cases q:H b with
    | none=>exact un.keep b o e q (by intro z;exact absurd (show b∈([]:List Addr) from z) (by simp)) (by simp)
    | some u =>
     rcases hO b with z | ⟨ob,xs,z⟩
     ·rw[q] at z;cases z
     ·have z2:=un.frzs b ob _ z;obtain ⟨e1,_⟩:=hok b _ z;obtain ⟨e2,_⟩:=hok' b _ z2;rw[e] at e1;cases e1;exact e2
 cases hk:K.lookup a with
 | some o =>
  have e:=KX a o hk;rw[ha] at e;cases e;refine core (λ_=>none) (λ_=>.inl rfl) (.inr ⟨_,vs.toArray,_,hk,rfl,rfl,rfl,by rw[aT,lenV];exact hl,by simpa using rv⟩) (λb u z=>by have z':(none:Option HO)=some u:=z;cases z') (λb z=>absurd rfl z) λz=>absurd rfl z
 | none =>
  refine core (λb=>if b=a then some (.frz { cls:=.type "list",data:=.seq vs.toArray } (.lst (ns.map V.int))) else none) (λb=>?_) (.inl (.inr ⟨{ cls:=.type "list",data:=.seq vs.toArray },if_pos rfl⟩)) (λb u z=>?_) (λb z=>?_) λ_=>hk
  ·by_cases hb:b=a
   ·exact .inr ⟨_,_,if_pos hb⟩
   ·exact .inl (if_neg hb)
  ·by_cases hb:b=a
   ·have z':=(if_pos hb).symm.trans z;cases z';subst hb;exact ⟨ha,by rw[ak];exact hl,vs,_,rv,ha⟩
   ·have z':=(if_neg hb).symm.trans z;cases z'
  ·by_cases hb:b=a
   ·exact hb
   ·exact absurd (if_neg hb) z
theorem HW {l:PySem.W.OpenLaw} {K:Params->FG9} {CX:World->Hs} {sp:World->Sp} 
  (hn:l.most=some n) (hn2:n<=sizeLine) (hdf:d.params.defaults=[]) (hr:jw k callerA)
  (hY:∀(w:World) (h:Heap),YP w h->(K w.params).In h)
  (F:∀(w:World) (mg:Str->Option Value) (fa:Addr) (h:Heap),(K w.params).In h->h.Ns mainGlobals mg->mg d.name=some (.ref fa) →
   ∃fd:FuncData,(∀(s:Shared) (u:Value),BindsTo s fd ⟨[u],[]⟩ [(x,u)]) /\
    ∀base:Heap,(K w.params).In base->base.Ns mainGlobals mg->cE l.prog w (K w.params) mg base (CX w) k fa fd [x] (sp w))
  (hsp:∀(w:World) (H:Hp) (a:Addr) (ns:List Int),ns.length<=n->Ln H->bL (K w.params) H a (ns.map V.int)->sp w [.ref a] H (λv _=>v=.bl true) λ_ _ _=>False)
  (hCX:∀(w:World) (H:Hp) (s:Shared) (e:Value) (s':Shared),CX w [] H s (λ_ _ _=>False) e s'->False) :
  PySem.W.WalkO q loose XP YP l.row.toRowW d [] (λf vs=>PySem.call f vs):=by
 refine Att.A9 hn hdf λw s₀ s₁ mg mb fa o pm cd doc a vs ns G Y ho hd hcd hmg hobj hints hlen hg=>?_
 have KX:=hY w _ Y;obtain ⟨fd,hb,hF⟩:=F w mg fa _ KX G.T.g hmg;exact F5 KX G.T.g G.T.b G.T.builtins G.T.nolimit hg hobj hints (ai hlen hn2) hr hF hb (λH hO hS=>hsp w H a ns hlen hO hS) λH e s'=>hCX w H s₁ e s'
end L2

namespace L2
open PySem PySem.Spec PyProof.Rows
def inClass (s:Stmt) (j:Nat):Stmt:=match s with
 | .ClassDef _ _ _ body _ _ _ _ _ _ _=>body.getD j (.Pass ⟨0,0,0,0⟩)
 | _=>.Pass ⟨0,0,0,0⟩
def jH (s:Stmt):Arguments:=match s with
 | .FunctionDef _ a _ _ _ _ _ _ _ _=>a
 | _=>{ posonlyargs:=[],args:=[],vararg:=none,kwonlyargs:=[],kw_defaults:=[],kwarg:=none,defaults:=[] }
def iI (s:Stmt):List Stmt:=match s with
 | .FunctionDef _ _ b _ _ _ _ _ _ _=>b
 | _=>[]
def aI (s:Stmt):Scope:=match s with
 | .FunctionDef _ _ _ _ _ _ sc _ _ _=>sc
 | _=>{ kind:=.function,names:=[],isGenerator:=false,isCoroutine:=false }
abbrev fA:Hs:=λ_ _ _ _ _ _=>False
abbrev E0:XK:=λ_ _ _=>False
theorem FO:tF fA X E0:=λ_ _ _ _ _ _ _ h=>h.elim
structure Hq (K:FG9) (x qual:Str) (st:Stmt) (f:Addr) (fd:FuncData):Prop where
 ex:∃(oc:Value) (od:Option Addr) (kV doc pm:Value) (an:Option Addr) (cdv ct:Value) (osl:Array (Option Value)),
  fd=PySem.W.fnOf x qual (jH st) (iI st) (aI st) .none kV doc pm an cdv ct/\K.lookup f=some ⟨oc,od,.func fd,osl⟩/\PySem.W.codeIn K cdv qual=true
 kp:PySem.W.keepIn K (.ref f)=true
section
variable {P:Program} {w:World} {K:FG9} {mg:Str->Option Value} {base:Heap}
theorem Hq.ok {st:Stmt} (F:Hq K x qual st f fd) (S:a9 N ps (aI st)) (len:∀vs H Q E,sp vs H Q E->vs.length=ps.length)
  (hbody:∀(cdv:Value) (A:Around) (outer:List Env) (s:Shared) (H:Hp) (vs:List V) (Q:VK) (E:XK),jw k (A.deeper (envOfC qual (aI st) s.heap.objs.size f cdv))->sp vs H Q E →
   ∃t,CG (EW fA P w K mg base N qual (aI st) f cdv A outer s H E).nox (iI st) t/\t { nx:=λ_ H'=>Q .non H',rt:=Q } (start N vs) H):cE P w K mg base fA (k+1) f fd ps sp:=by
 obtain ⟨oc,od,kV,doc,pm,an,cdv,ct,osl,rfl,lk,hcd⟩:=F.ex;refine Mt lk hcd S len λA outer s H vs Q E hr hsp=>?_
 obtain ⟨t,h,q⟩:=hbody cdv A outer s H vs Q E hr hsp;exact ⟨t,h.nox,q⟩
theorem Hq.binds {st:Stmt} (F:Hq K x qual st f fd)
  (h:∀(kV doc pm:Value) (an:Option Addr) (cdv ct:Value) (us:List Value),us.length=ps.length->bindArgs (PySem.W.fnOf x qual (jH st) (iI st) (aI st) .none kV doc pm an cdv ct) ⟨us,[]⟩=pure (ps.zip us)):Binds K fd ps []:=by
 obtain ⟨oc,od,kV,doc,pm,an,cdv,ct,osl,rfl,lk,hcd⟩:=F.ex;exact .all (h kV doc pm an cdv ct)
theorem Ct {st:Stmt} {kV doc pm cdv ct:Value} (l:K.lookup f=some ⟨oc,od,.func (PySem.W.fnOf x qual (jH st) (iI st) (aI st) .none kV doc pm an cdv ct),osl⟩)
  (c:PySem.W.codeIn K cdv qual=true) (k:PySem.W.keepIn K (.ref f)=true):Hq K x qual st f (PySem.W.fnOf x qual (jH st) (iI st) (aI st) .none kV doc pm an cdv ct):=⟨⟨oc,od,kV,doc,pm,an,cdv,ct,osl,rfl,l,c⟩,k⟩
end
structure Df (K:FG9) (mg:Str->Option Value) (x:Str) (st:Stmt) (ps:List Str) (f:Addr) (fd:FuncData):Prop where
 m:mg x=some (.ref f)
 b:Binds K fd ps []
 F:Hq K x x st f fd
structure Dh (K:FG9) (x:Str) (st:Stmt) (f:Addr) (fd:FuncData):Prop where
 a:PySem.W.nsIn K mainGlobals x=some (some (.ref f))
 F:Hq K x x st f fd
theorem Mu {K:FG9} {st:Stmt} {kV doc pm cdv ct:Value} (a:PySem.W.nsIn K mainGlobals x=some (some (.ref f))) (l:K.lookup f=some ⟨oc,od,.func (PySem.W.fnOf x x (jH st) (iI st) (aI st) .none kV doc pm an cdv ct),osl⟩) (c:PySem.W.codeIn K cdv x=true) (k:PySem.W.keepIn K (.ref f)=true):Dh K x st f (PySem.W.fnOf x x (jH st) (iI st) (aI st) .none kV doc pm an cdv ct):=⟨a,Ct l c k⟩
theorem Dh.D {K:FG9} {x:Str} {st:Stmt} {f:Addr} {fd:FuncData} {ps:List Str} {mg:Str->Option Value} {h:Heap} (d:Dh K x st f fd) (X:K.In h) (G:h.Ns mainGlobals mg) (hb:∀(kV doc pm:Value) (an:Option Addr) (cdv ct:Value) (us:List Value),us.length=ps.length->bindArgs (PySem.W.fnOf x x (jH st) (iI st) (aI st) .none kV doc pm an cdv ct) ⟨us,[]⟩=pure (ps.zip us):=by walk_at "b"):Df K mg x st ps f fd:=⟨PySem.W.mg_of X G d.a,d.F.binds hb,d.F⟩
theorem cv {X:Cx} {k k':Nat} {f:Addr} {fd:FuncData} {ps:List Str} {sp:Sp} {x:Str} {st:Stmt} {p pos:Pos} {e:Expr} {es:List Expr} {t:TA} (F:cE X.prog X.w X.K X.mg X.base fA k f fd ps sp) (hr:jw k' X.A) (D:Df X.K X.mg x st ps f fd) (ha:PA X (e :: es) t) (hle:k<=k':=by decide) (hg:Gl X x:=by exact rfl) (hdb:(x == ("__debug__":Str))=false:=by decide) (he:starEach (e :: es) X.env=(false,eval e X.env) :: starEach es X.env:=by rfl) (hpl:(backTo pos (starEach es X.env)).any (·.1)=false:=by rfl):PE X (.Call (.Name x p) (e :: es) [] pos) (Fn sp [] E0 t):=IX F (hr.mono hle) hg D.m D.F.kp D.b .nil FO ha hdb he hpl
theorem bK (h:n<=1000):n < sizeLine:=be h (by decide)
section
variable {X:Cx}
theorem pv (i:Nat) {x:Str} {pos:Pos} (hN:X.N[i]?=some x:=by rfl) (hv:Ni X.env.scope x:=by first | exact Or.inl rfl | exact Or.inr (Or.inl rfl) | exact Or.inr (Or.inr rfl)) (hd:(x == ("__debug__":Str))=false:=by decide)
  (hcd:(x == ("__classdict__":Str))=false:=by decide):PE X (.Name x pos) (Kh i):=KU hN hv hd hcd
end
theorem K7 {A B:Prop} (h:B):if false=true then A else B:=by
 rw[if_neg aY];exact h
theorem Mm {A B:Prop} (h:A):if true=true then A else B:=by
 rw[if_pos rfl];exact h
theorem gC {c A B:Prop} [Decidable c] (h1:c->A) (h2:¬c->B):if c then A else B:=by
 by_cases h:c
 ·rw[if_pos h];exact h1 h
 ·rw[if_neg h];exact h2 h
def aH (H H':Hp):Prop:=∀b o,H b=some o->H' b=some o
theorem aH.refl (H:Hp):aH H H:=λ_ _ h=>h
theorem aH.trans (a:aH H H1) (b:aH H1 H2):aH H H2:=λc o h=>b c o (a c o h)
theorem aH.free (e:aH H H') (h:H' l=Option.none):H l=Option.none:=by
 cases q:H l with
 | none=>rfl
 | some o =>
  rw[e l o q] at h;cases h
theorem aH.seq {K:FG9} (e:aH H H') (h:bL K H a xs):bL K H' a xs:=by
 rcases h with (h | ⟨o,h⟩) | h
 ·exact .inl (.inl (e _ _ h))
 ·exact .inl (.inr ⟨o,e _ _ h⟩)
 ·exact .inr h
end L2
namespace Nm
theorem Gi (a b:Int):Int.gcd b (a.fmod b)=Int.gcd a b:=by
 rw[Int.fmod_def,gQ a b];apply Nat.dvd_antisymm
 ·apply GY
  ·exact dS ..
  ·have h1:=dS (a:=b) (b:=a - b*a.fdiv b);have h2:=eB (a:=b) (b:=a - b*a.fdiv b);have h3:=Int.dvd_add h2 (j4 (c:=a.fdiv b) h1);rwa [Int.sub_add_cancel] at h3
 ·apply GY
  ·exact dS ..
  ·exact Int.dvd_sub (eB ..) (j4 (dS ..))
theorem Gj (a b:Int):Int.gcd b (a % b)=Int.gcd a b:=by
 rw[Int.emod_def,gQ a b];apply Nat.dvd_antisymm
 ·apply GY
  ·exact dS ..
  ·have h1:=dS (a:=b) (b:=a - b*(a / b));have h2:=eB (a:=b) (b:=a - b*(a / b));have h3:=Int.dvd_add h2 (j4 (c:=a / b) h1);rwa [Int.sub_add_cancel] at h3
 ·apply GY
  ·exact dS ..
  ·exact Int.dvd_sub (eB ..) (j4 (dS ..))
theorem Jn (a b:Int) (h:b≠0):(a.fmod b).natAbs < b.natAbs:=by
 rcases Int.lt_or_gt_of_ne h with h | h
 ·have e:a.fmod b=-((-a).fmod (-b)):=by
   have:=Int.neg_fmod_neg (-a) (-b);simp only[Int.neg_neg] at this;exact this
  have h1:=Int.fmod_nonneg_of_pos (-a) (b:=-b) (by lia);have h2:=Int.fmod_lt_of_pos (-a) (b:=-b) (by lia)
  lia
 ·have h1:=Int.fmod_nonneg_of_pos a h;have h2:=Int.fmod_lt_of_pos a h
  lia
def g (t b:Int):Int:=(Int.gcd t b:Int)
def lo (t b:Int):Int:=t / g t b
def hi (t b:Int):Int:=b / g t b
theorem wC (h:b≠0):0 < g t b:=by
 unfold g;have:0 < Int.gcd t b:=HU _ h
 lia
theorem wo (t b:Int):lo t b*g t b=t:=Int.ediv_mul_cancel (dS ..)
theorem sV (t b:Int):hi t b*g t b=b:=Int.ediv_mul_cancel (eB ..)
theorem Co (h:0 < b):0 < hi t b:=by
 have h1:=wC (t:=t) (b:=b) (by lia);have h2:=sV t b;by_cases h3:0 < hi t b
 ·exact h3
 ·have:hi t b*g t b<=0:=Int.mul_nonpos_of_nonpos_of_nonneg (by lia) (by lia)
  lia
theorem AO (h:b≠0):Int.gcd (lo t b) (hi t b)=1:=by
 have h1:=wC (t:=t) h;have e:=Int.gcd_mul_right (lo t b) (g t b) (hi t b);rw[wo,sV] at e;have e2:(g t b).natAbs=Int.gcd t b:=by unfold g;simp
 rw[e2] at e;have h2:0 < Int.gcd t b:=HU _ h;exact Nat.eq_of_mul_eq_mul_right h2 (by rw[<- e,mK])
theorem Cn (t b:Int):lo t b*b=t*hi t b:=by
 have h1:=wo t b;have h2:=sV t b
 calc lo t b*b=lo t b*(hi t b*g t b):=by rw[h2]
  _=(lo t b*g t b)*hi t b:=by rw[jk (hi t b),<- jz]
  _=t*hi t b:=by rw[h1]
theorem mi (h:Int.gcd a b=1) (hd:a∣b*c):a∣c:=by
 have h1:a.natAbs∣b.natAbs*c.natAbs:=by rw[<- di];exact fv.mpr hd
 have h2:Nat.Coprime a.natAbs b.natAbs:=h;exact fv.mp (h2.dvd_of_dvd_mul_left h1)
theorem uniq (hb:0 < b) (hd:0 < d) (h1:Int.gcd a b=1) (h2:Int.gcd c d=1) (e:a*d=c*b):a=c/\b=d:=by
 have e1:b∣d:=by
  have:b∣a*d:=⟨c,by rw[e,jk]⟩;exact mi (by rw[gQ];exact h1) this
 have e2:d∣b:=by
  have:d∣c*b:=⟨a,by rw[<- e,jk]⟩;exact mi (by rw[gQ];exact h2) this
 have e3:b=d:=Int.dvd_antisymm (by lia) (by lia) e1 e2;subst e3;exact ⟨J9 (by lia) e,rfl⟩
theorem kH {a b:Int} (h:b≠0):a.natAbs<=(a*b).natAbs:=by
 rw[di];exact cT _ (Int.natAbs_pos.mpr h)
theorem lo_le (h:b≠0):(lo t b).natAbs<=t.natAbs:=by
 have:=kH (a:=lo t b) (b:=g t b) (by have:=wC (t:=t) h;lia);rwa [wo] at this
theorem JV (h:b≠0):(hi t b).natAbs<=b.natAbs:=by
 have:=kH (a:=hi t b) (b:=g t b) (by have:=wC (t:=t) h;lia);rwa [sV] at this
def Sz (k:Nat) (x:Int):Prop:=x.natAbs < 2^k
theorem Sz.mono (h:Sz j x) (l:j<=k):Sz k x:=bc h (au (by decide) l)
theorem Sz.mul (h1:Sz j x) (h2:Sz k y):Sz (j+k) (x*y):=by
 unfold Sz at *
 rw[di,aE];exact Nat.mul_lt_mul'' h1 h2
theorem Sz.neg (h:Sz k x):Sz k (-x):=by unfold Sz at *;rw[yM];exact h
theorem Sz.le (h:Sz k y) (l:x.natAbs<=y.natAbs):Sz k x:=be l h
theorem Sz.hi {k:Nat} {t b:Int} (h:Sz k b) (hb:b≠0):Sz k (hi t b):=h.le (JV hb)
end Nm
namespace L2
open PySem PySem.Spec PyProof.Rows
structure Bk (env:Env) (scope:Scope) (own capN:List Str):Prop where
 kind:scope.kind=.function
 locs:∀y∈scope.names,y.2=.local->scope.names.lookup y.1=some .local
 ownk:∀x∈own,scope.names.lookup x=some .local\/scope.names.lookup x=some .cell
 cells:∀y∈scope.names,y.2=.cell->y.1∈own/\y.1∉capN
 frees:∀y∈scope.names,y.2=.free->y.1∈capN/\y.1∉own
 capf:∀x∈capN,scope.names.lookup x=some .free
 caps:∀x∈capN,env.kindOf x=some .cell\/env.kindOf x=some .free
def ML (scope:Scope) (own capN:List Str):Bool :=
 decide (scope.kind=.function) && scope.names.all (λy=>decide (y.2=.local->scope.names.lookup y.1=some .local) && decide (y.2=.cell->y.1∈own/\y.1∉capN) && decide (y.2=.free->y.1∈capN/\y.1∉own)) &&
 own.all (λx=>decide (scope.names.lookup x=some .local\/scope.names.lookup x=some .cell)) && capN.all λx=>decide (scope.names.lookup x=some .free)
def yx (env:Env):List Str->Bool
 | []=>true
 | x :: r=>(match env.kindOf x with | some .cell=>true | some .free=>true | _=>false) && yx env r
theorem A6 {env:Env}:∀{capN:List Str},yx env capN=true->∀x∈capN,env.kindOf x=some .cell\/env.kindOf x=some .free
 | [],_,_,h=>nomatch h
 | y :: r,h,x,hx=>by
  unfold yx at h;rw[dq] at h;rcases aA.mp hx with e | hx
  ·subst e;have h1:=h.1
   split at h1
   ·rename_i e;exact .inl e
   ·rename_i e;exact .inr e
   ·cases h1
  ·exact A6 h.2 x hx
theorem Bk.of (h1:ML scope own capN=true) (h2:yx env capN=true):Bk env scope own capN:=by
 unfold ML at h1;rw[dq,dq,dq,lE,lE,lE] at h1;obtain ⟨⟨⟨a1,a2⟩,a3⟩,a4⟩:=h1
 have a2':∀y∈scope.names,(y.2=.local->scope.names.lookup y.1=some .local)/\(y.2=.cell->y.1∈own/\y.1∉capN)/\(y.2=.free->y.1∈capN/\y.1∉own):=λy hy=>by
  have q:=a2 y hy;rw[dq,dq] at q;exact ⟨of_decide_eq_true q.1.1,of_decide_eq_true q.1.2,of_decide_eq_true q.2⟩
 exact ⟨of_decide_eq_true a1,λy hy=>(a2' y hy).1,λx hx=>of_decide_eq_true (a3 x hx),λy hy=>(a2' y hy).2.1,λy hy=>(a2' y hy).2.2,λx hx=>of_decide_eq_true (a4 x hx),A6 h2⟩
def dE (env:Env):List (Str×NameKind)->List (Str×Addr)->List (Str×Addr)
 | [],acc=>acc
 | (n,k) :: r,acc=>if k == .free then dE env r ((n,(env.cells.lookup n).getD 0) :: acc) else dE env r acc
theorem fX (env:Env):∀(names:List (Str×NameKind)) (acc:List (Str×Addr)),dE env names acc=dE env names []++acc
 | [],_=>rfl
 | (n,k) :: r,acc=>by
  unfold dE
  split
  ·rw[fX env r (_ :: acc),fX env r [_],cD];rfl
  ·exact fX env r acc
theorem mj (env:Env):∀(names:List (Str×NameKind)) {x:Str} {c:Addr},(x,c)∈dE env names []->(x,NameKind.free)∈names/\c=(env.cells.lookup x).getD 0
 | [],_,_,h=>nomatch h
 | (n,k) :: r,x,c,h=>by
  unfold dE at h
  split at h
  ·rename_i hk
   have ek:k=.free:=by simpa using hk
   subst ek;rw[fX] at h;rcases az.mp h with h | h
   ·have q:=mj env r h;exact ⟨ba _ q.1,q.2⟩
   ·have e:(x,c)=(n,(env.cells.lookup n).getD 0):=by simpa using h
    cases e;exact ⟨cu,rfl⟩
  ·have q:=mj env r h;exact ⟨ba _ q.1,q.2⟩
theorem gW {α:Type}:∀{l:List (Str×α)} {x:Str} {c:α},(x,c)∈l->∃d,l.lookup x=some d
 | (k,v) :: r,x,c,h=>by
  rw[ji];cases hb:x == k with
  | true=>exact ⟨v,rfl⟩
  | false =>
   rcases aA.mp h with e | h
   ·cases e;simp at hb
   ·exact gW h
theorem mo (env:Env):∀(names:List (Str×NameKind)) {x:Str},(x,NameKind.free)∈names->∃c,(x,c)∈dE env names []
 | (n,k) :: r,x,h=>by
  unfold dE;rcases aA.mp h with e | h
  ·cases e;rw[if_pos (by decide),fX];exact ⟨_,bE _ cu⟩
  ·obtain ⟨c,q⟩:=mo env r h
   split
   ·rw[fX];exact ⟨c,d5 _ q⟩
   ·exact ⟨c,q⟩
theorem wW (h:∀y∈scope.names,y.2=.free->∃c,env.cells.lookup y.1=some c):closureFor scope env=pure (dE env scope.names []):=by
 have gen:∀(names:List (Str×NameKind)) (acc:List (Str×Addr)) (f:Str×NameKind->List (Str×Addr)->Sem (ForInStep (List (Str×Addr)))),
   (∀name kind cells,f (name,kind) cells=if kind == .free then (do let a <- cellOf env name;pure (.yield ((name,a) :: cells))) else pure (.yield cells)) →
   (∀y∈names,y.2=.free->∃c,env.cells.lookup y.1=some c)->forIn names acc f=pure (dE env names acc):=by
  intro names
  induction names with
  | nil=>intro acc f hf _;rw[yL];rfl
  | cons y r ih =>
   intro acc f hf hh;obtain ⟨n,k⟩:=y;rw[Hw,hf];unfold dE;by_cases hk:(k == NameKind.free)=true
   ·obtain ⟨c,hc⟩:=hh (n,k) cu (by simpa using hk);have hc':env.cells.lookup n=some c:=hc;have e:cellOf env n=pure c:=by unfold cellOf;rw[hc']
    rw[if_pos hk,if_pos hk,e,hc'];simp only[pure_bind,Fb];exact ih _ f hf λy hy=>hh y (ba _ hy)
   ·rw[if_neg hk,if_neg hk];simp only[pure_bind];exact ih _ f hf λy hy=>hh y (ba _ hy)
 simp only[closureFor];rw[gen scope.names [] _ (λname kind cells=>by cases hkc:kind == NameKind.free <;> simp [hkc]) h];rfl
theorem eF:∀(names:List (Str×NameKind)) (n:Nat) (acc:List (Str×Addr)),cellsFrom n names acc=cellsFrom n names []++acc
 | [],_,_=>rfl
 | (x,k) :: r,n,acc=>by
  unfold cellsFrom
  split
  ·rw[eF r (n+1) (_ :: acc),eF r (n+1) [_],cD];rfl
  ·exact eF r n acc
theorem jf:∀(names:List (Str×NameKind)) (n:Nat) {x:Str} {c:Addr},(x,c)∈cellsFrom n names []->(x,NameKind.cell)∈names
 | [],_,_,_,h=>nomatch h
 | (y,k) :: r,n,x,c,h=>by
  unfold cellsFrom at h
  split at h
  ·rename_i hk
   have ek:k=.cell:=by simpa using hk
   subst ek;rw[eF] at h;rcases az.mp h with h | h
   ·exact ba _ (jf r _ h)
   ·have e:(x,c)=(y,n):=by simpa using h
    cases e;exact cu
  ·exact ba _ (jf r _ h)
def tu (env:Env) (scope:Scope) (C:Addr):Env :=
 { scope:=relabel scope env,locals:=C,globals:=env.globals,cells:=cellsFrom (C+1) scope.names (dE env scope.names []),qual:=env.qual,func:=none,code:=env.code,frame:=env.frame,builtins:=env.builtins }
theorem AM 
  (h:Q (newEnv scope s.heap.objs.size g (cellsFrom (s.heap.objs.size+1) scope.names cl) qual none .none (some env) builtinsNs) { s with heap:=pushCells (s.heap.push { cls:=.type "dict",data:=.dict #[] }) scope.names }) :
  wpAny M A (newFunctionEnv scope g cl [] qual none .none (some env)) Q E s:=by
 simp only[newFunctionEnv,Option.isSome_some,if_true];refine wpAny_bind (wpAny_alloc ?_);refine wpAny_bind (wpAny_layCells _ (λname kind cells=>by cases hkc:kind == NameKind.cell <;> simp [hkc]) _ _ _ _ ?_);rw[show ({ s with heap:=s.heap.push { cls:=.type "dict",data:=.dict #[] } }:Shared).heap.objs.size=s.heap.objs.size+1 from Heap.size_push ..];rw[yL];exact wpAny_bind (wpAny_pure (wpAny_pure h))
theorem p5:∀{k:NameKind},(relabel scope env).names.lookup x=some k->∃k0,scope.names.lookup x=some k0/\(k=k0\/(k0=.free/\k=.cell)):=by
 unfold relabel;show ∀{k:NameKind},(scope.names.map λ(n,k)=>if (k == NameKind.free && env.scope.kind == .function && env.kindOf n == some .cell) then (n,NameKind.cell) else (n,k)).lookup x=some k->_
 induction scope.names with
 | nil=>intro k h;cases h
 | cons y r ih =>
  intro k h;obtain ⟨n,k1⟩:=y;rw[dZ,ji] at h;rw[ji];by_cases hc:(k1 == NameKind.free && env.scope.kind == .function && env.kindOf n == some .cell)=true
  ·simp only[hc,if_true] at h;cases hb:x == n with
   | true =>
    simp only[hb] at h
    have e1:k1=.free:=by
     rw[dq,dq] at hc;simpa using hc.1.1
    cases h;exact ⟨k1,rfl,.inr ⟨e1,rfl⟩⟩
   | false=>simp only[hb] at h;exact ih h
  ·have hc':(k1 == NameKind.free && env.scope.kind == .function && env.kindOf n == some .cell)=false:=by simpa using hc
   simp only[hc',gR,if_false] at h;cases hb:x == n with
   | true=>simp only[hb] at h;cases h;exact ⟨_,rfl,.inl rfl⟩
   | false=>simp only[hb] at h;exact ih h
theorem AD:scope.names.lookup x=some .free->(relabel scope env).names.lookup x=some .cell\/(relabel scope env).names.lookup x=some .free:=by
 unfold relabel;show _->(scope.names.map λ(n,k)=>if (k == NameKind.free && env.scope.kind == .function && env.kindOf n == some .cell) then (n,NameKind.cell) else (n,k)).lookup x=some .cell\/(scope.names.map λ(n,k)=>if (k == NameKind.free && env.scope.kind == .function && env.kindOf n == some .cell) then (n,NameKind.cell) else (n,k)).lookup x=some .free
 induction scope.names with
 | nil=>intro h;cases h
 | cons y r ih =>
  intro h;obtain ⟨n,k1⟩:=y;rw[ji] at h;rw[dZ];by_cases hc:(k1 == NameKind.free && env.scope.kind == .function && env.kindOf n == some .cell)=true
  ·simp only[hc,if_true,ji];cases hb:x == n with
   | true=>exact .inl rfl
   | false=>rw[hb] at h;exact ih h
  ·have hc':(k1 == NameKind.free && env.scope.kind == .function && env.kindOf n == some .cell)=false:=by simpa using hc
   simp only[hc',gR,if_false,ji];cases hb:x == n with
   | true=>rw[hb] at h;cases h;exact .inr rfl
   | false=>rw[hb] at h;exact ih h
structure Bz where
 s:Shared
 H:Hp
 fp:List Addr
 C:Addr
def uO (X:Cx) (own capN:List Str) (scope:Scope) (Z:Bz):Cx where
 prog:=X.prog
 w:=X.w
 K:=X.K
 mg:=X.mg
 base:=X.base
 A:=X.A
 N:=own++capN
 s₀:=Z.s
 H₀:=Z.H
 env:=tu X.env scope Z.C
 outer:=X.stack
 stack:=X.stack
 ex:=Z.fp
 fn:=λx=>own.contains x
 calm:=true
 pn:=[]
 xe:=λ_ _=>False
section
variable {X:Cx} {pins:List (Addr×Obj)} {σ:St} {own capN:List Str} {scope:Scope} {Z:Bz}
theorem hZ (B:Bk X.env scope own capN) (I:Inv X pins σ Z.H Z.s) (h:(tu X.env scope Z.C).cells.lookup x=some c) :
  (x∈own/\(x,c)∈cellsFrom (Z.C+1) scope.names [])\/(x∈capN/\x∉own/\X.env.cells.lookup x=some c):=by
 have h':(cellsFrom (Z.C+1) scope.names (dE X.env scope.names [])).lookup x=some c:=h;rw[eF] at h';rcases az.mp (mem_of_lookup h') with m | m
 ·exact .inl ⟨(B.cells _ (jf _ _ m) rfl).1,m⟩
 ·obtain ⟨m1,e⟩:=mj _ _ m;obtain ⟨q1,q2⟩:=B.frees _ m1 rfl;obtain ⟨d,hd⟩:=I.ok.has x (B.caps x q1);rw[hd] at e;exact .inr ⟨q1,q2,by rw[hd,e];rfl⟩
theorem Jw (B:Bk X.env scope own capN) (I:Inv X pins σ Z.H Z.s) (hx:x∈capN) (h:X.env.cells.lookup x=some c):(tu X.env scope Z.C).cells.lookup x=some c:=by
 have hm:(x,NameKind.free)∈scope.names:=mem_of_lookup (B.capf x hx);obtain ⟨c1,m1⟩:=mo X.env scope.names hm
 have hs:∃d,(tu X.env scope Z.C).cells.lookup x=some d:=by
  show ∃d,(cellsFrom (Z.C+1) scope.names (dE X.env scope.names [])).lookup x=some d
  rw[eF];exact gW (bE _ m1)
 obtain ⟨d,hd⟩:=hs;rcases hZ B I hd with ⟨q,m⟩ | ⟨_,_,q⟩
 ·exact absurd hx (B.cells _ (jf _ _ m) rfl).2
 ·rw[h] at q;cases q;exact hd
theorem Ey (h:Heap) (C:Addr) (hC:h.objs.size=C+1) (names:List (Str×NameKind)):CellsOk (pushCells h names) (C+1) (cellsFrom (C+1) names []):=by
 have q:=cellsFrom_ok names h (C+1) [] ⟨λ_ _ hm=>(nomatch hm),List.Pairwise.nil⟩ (by rw[hC];exact av _);rwa [hC] at q
theorem zR (I:Inv X pins σ Z.H Z.s) (h:X.env.cells.lookup x=some c):@LT.lt Nat instLTNat c Z.s.heap.objs.size:=by
 obtain ⟨v,q⟩:=I.cell x c h;exact q.lt
theorem Lk (I:Inv X pins σ Z.H Z.s) (hc:X.calm=true) (B:Bk X.env scope own capN) (hC:Z.s.heap.objs.size<=Z.C) (hcl:CellsOk h1 (Z.C+1) (cellsFrom (Z.C+1) scope.names []))
  (hf:∀b∈Z.fp,ja X pins Z.H b/\@LT.lt Nat instLTNat b Z.s.heap.objs.size):(uO X own capN scope Z).Ok:=by
 refine ⟨I.ok.mod,B.kind,I.ok.glob,I.ok.blt,hC,λx y c h1 h2=>?_,λx hx=>?_,λx c hx h=>?_,λ_=>I.ok.hd hc,I.ok.frames,.inl rfl,λb hb=>⟨?_,λx c h=>?_⟩,I.bs,ai I.ok.bsz I.sz,λb o e hb=>?_,λb hb hz=>?_,I.stack,I.stkFree⟩
 ·rcases hZ B I h1 with ⟨q1,m1⟩ | ⟨q1,n1,m1⟩ <;> rcases hZ B I h2 with ⟨q2,m2⟩ | ⟨q2,n2,m2⟩
  ·exact name_of_addr hcl.apart m1 m2
  ·have l1:=(hcl.empty _ _ m1).2;have l2:=zR I m2
   lia
  ·have l1:=(hcl.empty _ _ m2).2;have l2:=zR I m1
   lia
  ·exact I.ok.inj x y c m1 m2
 ·have hx':(relabel scope X.env).names.lookup x=some .cell\/(relabel scope X.env).names.lookup x=some .free:=hx
  have hk:scope.names.lookup x=some .cell\/scope.names.lookup x=some .free:=by
   rcases hx' with h | h
   ·obtain ⟨k0,e,q | ⟨q,_⟩⟩:=p5 h
    ·exact .inl (by rw[e,<- q])
    ·exact .inr (by rw[e,q])
   ·obtain ⟨k0,e,q | ⟨_,q⟩⟩:=p5 h
    ·exact .inr (by rw[e,<- q])
    ·cases q
  show ∃c,(cellsFrom (Z.C+1) scope.names (dE X.env scope.names [])).lookup x=some c
  rcases hk with h | h
  ·exact LC.mp (vb scope.names (Z.C+1) _ (.inl h))
  ·obtain ⟨c,m⟩:=mo X.env scope.names (mem_of_lookup h);rw[eF];exact gW (bE _ m)
 ·have ho:x∈own:=by have hx':own.contains x=true:=hx;simpa using hx'
  rcases hZ B I h with ⟨_,m⟩ | ⟨_,n,_⟩
  ·have:=(hcl.empty _ _ m).2;have hC':Z.s.heap.objs.size<=Z.C:=hC;show Z.s.heap.objs.size<=c
   lia
  ·exact absurd ho n
 ·intro e;have e':@Eq Nat b Z.C:=e;have:=(hf b hb).2
  lia
 ·have l:=(hf b hb).2;rcases hZ B I h with ⟨_,m⟩ | ⟨_,_,m⟩
  ·intro e;have e':@Eq Nat c b:=e;have:=(hcl.empty _ _ m).2
   lia
  ·exact (hf b hb).1.2.2.2.2.1 x c m
 ·obtain ⟨_,_,_,f3,_⟩:=(hf b hb).1;rcases f3 with f3 | f3
  ·exact I.ok.noex b o e f3
  ·exact absurd (bc (Heap.lt_size e) (ai I.ok.bsz f3)) (dY _)
 ·obtain ⟨_,f1,f2,_⟩:=(hf b hb).1;rcases aA.mp (I.stkSub b hz) with e | e
  ·exact f1 e
  ·exact f2 e
def E4 (k:Nat) (cap:List Nat) (σ:St):St:=List.replicate k none++cap.map λj=>(σ[j]?).join
def uH (X:Cx) (capN:List Str) (cap:List Nat):Prop:=cap.map (λj=>X.N[j]?)=capN.map some
theorem uH.get (h:uH X capN cap) {i:Nat} (e:capN[i]?=some x):∃j,cap[i]?=some j/\X.N[j]?=some x:=by
 have q:=congrArg (λl=>l[i]?) h;simp only[aB,e,Option.map_some] at q;cases hc:cap[i]? with
 | none=>rw[hc] at q;cases q
 | some j=>rw[hc] at q;exact ⟨j,rfl,by simpa using q⟩
theorem A7 (I:Inv X pins σ Z.H Z.s) (B:Bk X.env scope own capN) (hcap:uH X capN cap)
  (kc:∀x c,X.env.cells.lookup x=some c->∀v,Z.s.heap.IsCell c v->h'.IsCell c v) {i:Nat} (e1:(own++capN)[i]?=some x) (e2:(E4 own.length cap σ)[i]?=some (some v)) :
  ∃u,RelV v u/\Look (tu X.env scope Z.C) h' m x u:=by
 have hi:own.length<=i:=by
  by_cases hi:own.length<=i
  ·exact hi
  ·exfalso
   unfold E4 at e2;rw[cz (by simpa using hi),gi] at e2
   split at e2 <;> cases e2
 rw[bV hi] at e1;unfold E4 at e2;rw[bV (by simpa using hi),aL,aB] at e2;obtain ⟨j,hj,hN⟩:=hcap.get e1;rw[hj] at e2;have e3:(σ[j]?).join=some v:=by simpa using e2
 have e4:σ[j]?=some (some v):=by
  cases q:σ[j]? with
  | none=>rw[q] at e3;cases e3
  | some o=>rw[q] at e3;simp at e3;rw[e3]
 have hx:x∈capN:=ar e1;have hk:=B.caps x hx;obtain ⟨m0,_,hl⟩:=I.loc;obtain ⟨u,r,l⟩:=hl j x v hN e4 (.inr hk);refine ⟨u,r,.inr ⟨AD (B.capf x hx),?_⟩⟩;rcases l with ⟨hk2,_⟩ | ⟨_,c,hc,z⟩
 ·rcases hk with hk | hk
  ·rw[hk] at hk2;cases hk2
  ·rw[hk] at hk2;cases hk2
 ·exact ⟨c,Jw B I hx hc,kc x c hc _ z⟩
theorem Ms (I:Inv X pins σ Z.H Z.s) (h:b∈E6 X.stack):@LT.lt Nat instLTNat b Z.s.heap.objs.size:=by
 obtain ⟨_,o,ho,_⟩:=I.stack.mem h;exact Heap.lt_size ho
theorem Ju {D:Addr} (I:Inv X pins σ Z.H Z.s) (hc:X.calm=true) (B:Bk X.env scope own capN) (hcap:uH X capN cap) (hC:Z.s.heap.objs.size<=Z.C)
  (hcl:CellsOk h1 (Z.C+1) (cellsFrom (Z.C+1) scope.names [])) (hf:∀b∈Z.fp,ja X pins Z.H b/\@LT.lt Nat instLTNat b Z.s.heap.objs.size)
  (hk:∀b o,Z.s.heap.get? b=some o->h1.get? b=some o) (hn:h1.Ns Z.C λ_=>none) (hD:Z.s.heap.objs.size<=D) (hDC:D≠Z.C) (hoD:h1.get? D=some oD) (hdD:∀v,oD.data≠.cell v) :
  Inv (uO X own capN scope Z) [(D,oD)] (E4 own.length cap σ) Z.H { Z.s with heap:=h1,toks:=t1 }:=by
 refine ⟨Lk I hc B hC hcl hf,rfl,I.bare,Un.kept hk,⟨_,hn,λi x v e1 e2 _=>A7 I B hcap (λx c _ v z=>z.keeps hk) e1 e2⟩,λx c h=>?_,I.hok.fresh hC,λx c h=>?_,λp hp=>?_,I.hok.kept hk,?_⟩
 ·rcases hZ B I h with ⟨_,m⟩ | ⟨_,_,m⟩
  ·exact ⟨none,(hcl.empty _ _ m).1⟩
  ·obtain ⟨v,q⟩:=I.cell x c m;exact ⟨v,q.keeps hk⟩
 ·rcases hZ B I h with ⟨_,m⟩ | ⟨_,_,m⟩
  ·exact I.hok.fresh (by have:=(hcl.empty _ _ m).2;lia)
  ·exact I.freeC x c m
 ·have e:p=(D,oD):=by simpa [uO] using hp
  subst e;exact ⟨hoD,I.hok.fresh hD,hDC,λz=>dY _ (bc (Ms I z) hD),hdD⟩
 ·show (E4 own.length cap σ).length=(own++capN).length
  have:=congrArg List.length hcap;simp only[ak] at this;unfold E4;simp [this]
theorem GR {σ':St} (I:Inv X pins σ Z.H Z.s) (B:Bk X.env scope own capN) (hcap:uH X capN cap) (hf:∀b∈Z.fp,ja X pins Z.H b/\@LT.lt Nat instLTNat b Z.s.heap.objs.size)
  (J:Inv (uO X own capN scope Z) pins' σ' H' s'):Inv (uO X own capN scope Z) pins' (E4 own.length cap σ) H' s':=by
 refine ⟨J.ok,J.os,J.bare,J.base,?_,J.cell,J.free,J.freeC,J.pin,J.hok,?_⟩
 ·obtain ⟨m,hn,_⟩:=J.loc;refine ⟨m,hn,λi x v e1 e2 _=>A7 I B hcap (λx c hx v z=>?_) e1 e2⟩;obtain ⟨o,ho,hd⟩:=z;obtain ⟨sl,e⟩:=J.base.any ho (I.freeC x c hx) λz=>(hf c z).1.2.2.2.2.1 x c hx rfl
  exact ⟨_,e,hd⟩
 ·show (E4 own.length cap σ).length=(own++capN).length
  have:=congrArg List.length hcap;simp only[ak] at this;unfold E4;simp [this]
theorem Jv {σ':St} {D:Addr} (I:Inv X pins σ Z.H Z.s) (hf:∀b∈Z.fp,ja X pins Z.H b/\@LT.lt Nat instLTNat b Z.s.heap.objs.size) (hD:Z.s.heap.objs.size<=D)
  (J:Inv (uO X own capN scope Z) [(D,{ cls:=.type "list",data:=.seq its.toArray n })] σ' H' s') (r:cI ys its) (hz:ys.length<=sizeLine) :
  Inv X pins σ (upd H' D (.lst ys)) s':=by
 have pD:=J.pin (D,{ cls:=.type "list",data:=.seq its.toArray n }) (by simp);have ne:∀{b:Addr} {o:Obj},Z.s.heap.get? b=some o->b≠D:=λe z=>by subst z;exact dY _ (bc (Heap.lt_size e) hD)
 have nt:∀{b:Addr} {u:HO},H' b=some u->b≠D:=λe z=>by rw[z,pD.2.1] at e;cases e
 refine I.call' (ch:=Z.fp) J.os ⟨J.base.keep,J.base.slot,λb o e h hx=>?_,J.base.there,λb xs e=>?_,λb o u e=>?_,λb ps e=>?_⟩ (λb u e=>?_) J.bare λb hb=>?_
 ·rw[br (ne e)];exact J.base.free b o e h hx
 ·have q:=J.base.tups b xs e;rw[br (nt q)];exact q
 ·have q:=J.base.frzs b o u e;rw[br (nt q)];exact q
 ·obtain ⟨more,q⟩:=J.base.tbls b ps e;exact ⟨more,by rw[br (nt q)];exact q⟩
 ·by_cases hb:b=D
  ·subst hb;rw[aJ] at e;cases e;exact ⟨hz,its,n,r,pD.1⟩
  ·rw[br hb] at e;exact (J.hok b u e).stay (λc v _ q=>q) (λc q=>by rw[br (nt q)];exact q) λc xs q=>by rw[br (nt q)];exact q
 ·obtain ⟨_,f1,_,f3,f4,f5⟩:=(hf b hb).1;exact ⟨f3,f1,f4,f5⟩
end
theorem Kg {t:Sem α} {Q Q':α->Shared->Prop} (h:wpAny M A t Q (λ_ _=>False) s) (hQ:∀a s,Q a s->Q' a s):wpAny M A t Q' E s :=
 wpAny_mono h hQ λ_ _ z=>False.elim z
theorem zP (I:Nat->Shared->Prop)
  (turn:∀(E:Value->Shared->Prop) n s,I n s->wpAny (model prog w) A (pyNext it) (λr s₁=>match r with
   | none=>R (.ok .next) s₁
   | some v=>wpAny (model prog w) A (letOwnedTupleGo target it v) (λ_ s₂=>wpAny (model prog w) A (assign target env v) (λ_ s₃ =>
     wpAny (model prog w) A (forIn ifs true λc r=>if r=true then do let ok <- isTrue c env (eval c env);pure (ForInStep.yield ok) else pure (ForInStep.yield r)) (λok s₄ =>
      if ok=true then wpAny (model prog w) A (eval elt env) (λx s₅=>wpAny (model prog w) A (call (.builtin "list.append") [acc,x]) (λ_ s₆=>∃m,m < n/\I m s₆) E s₅) E s₄
      else ∃m,m < n/\I m s₄) E s₃) E s₂) E s₁) E s)
  (n:Nat) (h:I n s):codeAny (model prog w) A (.compLoop (.ListComp elt [⟨target,iter,ifs,0⟩] scope pos) 0 it acc env) R s:=by
 refine codeAny_loop rfl I (λn s hI=>?_) n h;show wpAny _ A ((compTurn (.ListComp elt [⟨target,iter,ifs,0⟩] scope pos) 0 it acc env).onRaise (λx=>do noteFrame x env;theTreesLotGoes x)) _ _ s
 refine wpAny_noted ?_;rw[compTurn_list];refine wpAny_bind (wpAny_standAt (wpAny_bind (wpAny_mono (turn _ n s hI) (λr s₁ h₁=>?_) λ_ _ h'=>h')));cases r with
 | none=>exact wpAny_pure h₁
 | some v =>
  refine wpAny_bind (wpAny_mono h₁ (λ_ s₂ h₂=>wpAny_bind (wpAny_mono h₂ (λ_ s₃ h₃=>wpAny_bind (wpAny_mono h₃ (λok s₄ h₄=>?_) λ_ _ h'=>h')) λ_ _ h'=>h')) λ_ _ h'=>h');cases ok with
  | false=>exact wpAny_pure ⟨rfl,h₄⟩
  | true =>
   exact wpAny_bind (wpAny_bind (wpAny_mono h₄ (λx s₅ h₅=>wpAny_bind (wpAny_mono h₅ (λ_ s₆ h₆=>wpAny_pure (wpAny_pure ⟨rfl,h₆⟩)) λ_ _ h'=>h')) λ_ _ h'=>h'))
def PF (X:Cx) (ifs:List Expr) (t:TT):Prop :=
 ∀(pins:List (Addr×Obj)) (s:Shared) (σ:St) (H:Hp) (Q:Bool->Hp->Prop),Inv X pins σ H s->t σ H Q →
  wpAny (model X.prog X.w) X.A (forIn ifs true λc r=>if r=true then do let ok <- isTrue c X.env (eval c X.env);pure (ForInStep.yield ok) else pure (ForInStep.yield r)) (TP X pins σ Q) X.xe s
def LG:TT:=λ_ H Q=>Q true H
theorem b8:PF X [] LG:=λ_ _ _ H _ I h=>wpAny_tests_nil ⟨H,I,h⟩
def mS (σ₀:St) (g:TG) (tf:TT) (te:TE) (x:V) (H:Hp) (NY:V->Hp->Prop) (NN:Hp->Prop):Prop :=
 g x σ₀ H λσ2 H2=>tf σ2 H2 λb H3=>if b=true then te σ2 H3 NY else NN H3
def oj (J:It) (σ₀:St) (g:TG) (tf:TT) (te:TE) (Q:VK) (H1:Hp):Prop :=
 ∃W:Nat->Nat->List V->Hp->Prop,(∃m,W 0 m [] H1)/\∀i m ys H,W i m ys H →
  (J.stop i H/\ys.length<=sizeLine/\∀p,H p=none->Q (.ref p) (upd H p (.lst ys))) \/
  (J.go i H/\ys.length < sizeLine/\∃(NY:V->Hp->Prop) (NN:Hp->Prop),(∀y H',NY y H'->∃m',m' < m/\W (i+1) m' (ys++[y]) H')/\(∀H',NN H'->∃m',m' < m/\W (i+1) m' ys H') /\
   ∀x H',J.yld i H x H'->mS σ₀ g tf te x H' NY NN)
def Ad (wi:TI) (k:Nat) (cap:List Nat) (g:TG) (tf:TT) (te:TE):TE:=λσ H Q=>wi σ H λJ H1=>oj J (E4 k cap σ) g tf te Q H1
abbrev lobj (its:List Value) (n:Nat):Obj:={ cls:=.type "list",data:=.seq its.toArray n }
section
variable {X:Cx} {own capN:List Str} {cap:List Nat} {scope:Scope} {elt tg iter:Expr} {ifs:List Expr} {pos:Pos} {wi:TI} {g:TG} {tf:TT} {te:TE}
theorem yv (hc:X.calm=true) (B:Bk X.env scope own capN) (hcap:uH X capN cap)
  (hi:PI X tg iter wi) (hg:∀Z,PG (uO X own capN scope Z) tg g) (hf:∀Z,PF (uO X own capN scope Z) ifs tf) (he:∀Z,PE (uO X own capN scope Z) elt te)
  (hs:∀x,foldedSetIterable iter X.env x=pure x) {σ:St} (I:Inv X pins σ H s) (h:Ad wi own.length cap g tf te σ H Q)
  (fin:∀(D C:Addr) (s':Shared) (H':Hp),Inv X pins σ H' s'->ja X pins H' C->(∃m,s'.heap.Ns C m)->Q (.ref D) H'->compPost (model X.prog X.w) X.A X.xe use Qe (.ref D) C (.ok .next) s') :
  wpAny (model X.prog X.w) X.A (comprehension (.ListComp elt [⟨tg,iter,ifs,0⟩] scope pos) scope X.env fpos (newList []) false (eval iter X.env) use) Qe X.xe s:=by
 refine wpAny_comprehension_free (use:=use) rfl hs (wW λy hy hk=>I.ok.has y.1 (B.caps _ (B.frees y hy hk).1)) B.kind B.locs ?_;refine fB (hi pins s σ H _ I h) λv s1 h1=>fB h1 λitv s2 h2=>?_
 obtain ⟨it,fp,tn,J,H2,e,I2,T,st2,f2,W,⟨m0,w0⟩,turn⟩:=h2;subst e;have hfp:∀b∈fp,ja X pins H2 b/\@LT.lt Nat instLTNat b s2.heap.objs.size:=λb hb=>⟨f2 b hb,let ⟨_,e,_⟩:=T.obj _ _ st2 b hb;Heap.lt_size e⟩
 refine wpAny_newObj_type (AM ?_) (bJ _);have es:(s2.heap.push { cls:=.type "list",data:=.seq ([]:List Value).toArray }).objs.size=s2.heap.objs.size+1:=Heap.size_push ..
 show codeAny _ _ (.compStart _ 0 (.ref it) (.ref s2.heap.objs.size) { newEnv scope (s2.heap.push { cls:=.type "list",data:=.seq ([]:List Value).toArray }).objs.size X.env.globals (cellsFrom ((s2.heap.push { cls:=.type "list",data:=.seq ([]:List Value).toArray }).objs.size+1) scope.names (dE X.env scope.names [])) X.env.qual none .none (some X.env) builtinsNs with scope:=relabel scope X.env })
  (compPost (model X.prog X.w) X.A X.xe use Qe (.ref s2.heap.objs.size) (s2.heap.push { cls:=.type "list",data:=.seq ([]:List Value).toArray }).objs.size)
  { s2 with heap:=pushCells ((s2.heap.push { cls:=.type "list",data:=.seq ([]:List Value).toArray }).push { cls:=.type "dict",data:=.dict #[] }) scope.names }
 have hk1:∀b o,(s2.heap.push { cls:=.type "list",data:=.seq ([]:List Value).toArray }).get? b=some o->(pushCells ((s2.heap.push { cls:=.type "list",data:=.seq ([]:List Value).toArray }).push { cls:=.type "dict",data:=.dict #[] }) scope.names).get? b=some o :=
  λb o e=>pushCells_keeps _ _ _ _ (Heap.get?_push_of_some _ e)
 have hk:∀b o,s2.heap.get? b=some o->(pushCells ((s2.heap.push { cls:=.type "list",data:=.seq ([]:List Value).toArray }).push { cls:=.type "dict",data:=.dict #[] }) scope.names).get? b=some o:=λb o e=>hk1 b o (Heap.get?_push_of_some _ e)
 have hoD:=hk1 s2.heap.objs.size _ (Heap.get?_push_size s2.heap (o:={ cls:=.type "list",data:=.seq ([]:List Value).toArray }) rfl);have hn:=(Heap.Ns.new (s2.heap.push { cls:=.type "list",data:=.seq ([]:List Value).toArray }) (.type "dict")).keeps (pushCells_keeps scope.names _);have hcl:=Ey ((s2.heap.push { cls:=.type "list",data:=.seq ([]:List Value).toArray }).push { cls:=.type "dict",data:=.dict #[] }) (s2.heap.objs.size+1) (by rw[Heap.size_push,es]) scope.names;rw[es] at hn ⊢;generalize pushCells ((s2.heap.push { cls:=.type "list",data:=.seq ([]:List Value).toArray }).push { cls:=.type "dict",data:=.dict #[] }) scope.names=h3 at hk hoD hn hcl ⊢;have Z:Bz:=⟨s2,H2,fp,s2.heap.objs.size+1⟩
 have I3:Inv (uO X own capN scope ⟨s2,H2,fp,s2.heap.objs.size+1⟩) [(s2.heap.objs.size,lobj [] 0)] (E4 own.length cap σ) H2 { s2 with heap:=h3 } :=
  Ju (Z:=⟨s2,H2,fp,s2.heap.objs.size+1⟩) (t1:=s2.toks) I2 hc B hcap (yK _) hcl hfp hk hn (av _) (cC (gh _)) hoD (λv z=>nomatch z)
 have st3:tn 0 h3:=T.keep _ _ _ st2 λb _ o e=>hk b o e
 have loop:codeAny (model X.prog X.w) X.A (.compLoop (.ListComp elt [⟨tg,iter,ifs,0⟩] scope pos) 0 (.ref it) (.ref s2.heap.objs.size) (tu X.env scope (s2.heap.objs.size+1))) (compPost (model X.prog X.w) X.A X.xe use Qe (.ref s2.heap.objs.size) (s2.heap.objs.size+1)) { s2 with heap:=h3 }:=by
  refine zP (λm s'=>∃i ys σ' H' its n,Inv (uO X own capN scope ⟨s2,H2,fp,s2.heap.objs.size+1⟩) [(s2.heap.objs.size,lobj its n)] σ' H' s'/\tn i s'.heap/\(∀b∈fp,H' b=none)/\cI ys its/\W i m ys H') ?_ m0
   ⟨0,[],_,H2,[],0,I3,st3,λb hb=>(f2 b hb).1,.nil,w0⟩
  rintro E n s4 ⟨i,ys,σ4,H4,its,k,I4,st4,fr4,rv,w4⟩
  have fpo:∀{pp:List (Addr×Obj)} {H':Hp},(∀p∈pp,p.1=s2.heap.objs.size)->(∀b∈fp,H' b=none)->∀b∈fp,ja (uO X own capN scope ⟨s2,H2,fp,s2.heap.objs.size+1⟩) pp H' b:=λ{pp H'} hpp hn b hb=>by
   obtain ⟨e1,e2⟩:=I4.ok.exf b hb;refine ⟨hn b hb,e1,I4.ok.exfs b hb,.inl hb,e2,λp hp=>?_⟩;have hp':p∈pp:=by simpa [uO] using hp
   have l:=(hfp b hb).2;rw[hpp p hp'];exact λz=>dY _ (by rw[<- z] at l;exact l)
  have pinD:∀{its:List Value} {n:Nat},∀p∈[(s2.heap.objs.size,lobj its n)],p.1=s2.heap.objs.size:=λp hp=>by simp at hp;rw[hp]
  rcases turn i n ys H4 w4 with ⟨stop,hz,q⟩ | ⟨go,hlt,NY,NN,hNY,hNN,step⟩
  ·refine fB (T.done (uO X own capN scope ⟨s2,H2,fp,s2.heap.objs.size+1⟩) rfl rfl rfl rfl i _ s4 σ4 H4 E I4 (fpo pinD fr4) st4 stop) λr s5 ⟨hr,I5⟩=>?_
   subst hr;have pD:=I5.pin (s2.heap.objs.size,lobj its k) (by simp);have I6:=Jv (Z:=⟨s2,H2,fp,s2.heap.objs.size+1⟩) I2 hfp (av _) I5 rv hz
   have hC:upd H4 s2.heap.objs.size (.lst ys) (s2.heap.objs.size+1)=none:=by
    rw[br (D7 (gh _))];exact I5.free
   obtain ⟨m,hm,_⟩:=I5.loc;exact fin _ _ s5 _ I6 (I2.fpOk (yK _) hC) ⟨m,hm⟩ (q _ pD.2.1)
  ·refine fB (T.item (uO X own capN scope ⟨s2,H2,fp,s2.heap.objs.size+1⟩) rfl rfl rfl rfl i _ s4 σ4 H4 E I4 (fpo pinD fr4) st4 go) λr s5 ⟨u,hr,h5⟩=>?_
   subst hr;refine fB h5 λ_ s6 ⟨x,H6,I6,r6,y6,st6,fr6⟩=>?_
   have I6':=(GR (Z:=⟨s2,H2,fp,s2.heap.objs.size+1⟩) I2 B hcap hfp I6).pinned (fpo pinD fr6) (T.obj _ _ st6)
   have back:∀{σ7:St} {H7:Hp} {s7:Shared},Inv (uO X own capN scope ⟨s2,H2,fp,s2.heap.objs.size+1⟩) ([(s2.heap.objs.size,lobj its k)]++vQ fp s6.heap) σ7 H7 s7 →
     Inv (uO X own capN scope ⟨s2,H2,fp,s2.heap.objs.size+1⟩) [(s2.heap.objs.size,lobj its k)] σ7 H7 s7/\tn (i+1) s7.heap/\∀b∈fp,H7 b=none:=λ{σ7 H7 s7} I7=>by
    refine ⟨I7.unpinned,T.keep _ _ _ st6 λb hb o e=>(I7.pin (b,o) (bE _ (bE _ (mh hb e)))).1,λb hb=>?_⟩;obtain ⟨o,e,d⟩:=T.obj _ _ st6 b hb;exact (I7.pin (b,o) (bE _ (bE _ (mh hb e)))).2.1
   refine Kg (hg _ _ s6 _ H6 x u _ I6' r6 (step x H6 y6)) λ_ s7 ⟨σ7,H7,I7,q7⟩=>?_
   refine Kg (hf _ _ s7 σ7 H7 _ I7 q7) λok s8 ⟨H8,I8,q8⟩=>?_
   cases ok with
   | false =>
    rw[if_neg aY] at q8 ⊢;obtain ⟨m',hm,w8⟩:=hNN H8 q8;obtain ⟨J1,J2,J3⟩:=back I8;exact ⟨m',hm,i+1,ys,σ7,H8,its,k,J1,J2,J3,rv,w8⟩
   | true =>
    rw[if_pos rfl] at q8 ⊢;refine Kg (he _ _ s8 σ7 H8 _ I8 q8) λz s9 ⟨y,H9,I9,r9,q9⟩=>?_
    obtain ⟨J1,J2,J3⟩:=back I9;obtain ⟨m',hm,w9⟩:=hNY y H9 q9;have pD:=J1.pin (s2.heap.objs.size,lobj its k) (by simp);have hl:=rv.length;refine call_meets F.slot_list_append ⟨_,pD.1,rfl⟩ F.entry_list_append (F.args_list_append_2 _ _) (PySem.list_append s2.heap.objs.size its.toArray k z (by rw[aT];lia)) ⟨pD.1,?_⟩;have e9:=jg pD.1 (λa=>a.push z);have e9':(its.toArray.push z)=(its++[z]).toArray:=by simp
    rw[e9'] at e9;obtain ⟨n',e9⟩:∃n',(s9.heap.update s2.heap.objs.size (Obj.mapSeq λa=>a.push z)).get? s2.heap.objs.size=some (lobj (its++[z]) n'):=⟨_,e9⟩
    have J4:Inv (uO X own capN scope ⟨s2,H2,fp,s2.heap.objs.size+1⟩) [] σ7 H9 { s9 with heap:=s9.heap.update s2.heap.objs.size (Obj.mapSeq λa=>a.push z),toks:=s9.toks } :=
     (J1.pins_of (pins':=[]) λp hp=>nomatch hp).turned (λb o hb e=>(Heap.get?_update_other s9.heap _ (Ne.symm hb)).trans e) pD.2.1 pD.2.2.1 (.inr (av _)) (λx c hx z=>by
      rcases hZ (Z:=⟨s2,H2,fp,s2.heap.objs.size+1⟩) B I2 hx with ⟨_,m⟩ | ⟨_,_,m⟩
      ·have:=(hcl.empty _ _ m).2;have z':@Eq Nat c s2.heap.objs.size:=z
       lia
      ·have:=zR (Z:=⟨s2,H2,fp,s2.heap.objs.size+1⟩) I2 m;rw[z] at this;exact dY _ this) λp hp=>by simp [uO] at hp
    have nfp:∀b∈fp,b≠s2.heap.objs.size:=λb hb z=>by have:=(hfp b hb).2;rw[z] at this;exact dY _ this
    refine ⟨m',hm,i+1,ys++[y],σ7,H9,its++[z],n',J4.pins_of λp hp=>?_,T.keep _ _ _ J2 λb hb o e=>(Heap.get?_update_other s9.heap _ (Ne.symm (nfp b hb))).trans e,J3,rv.append (.cons r9 .nil),w9⟩;have ep:p=(s2.heap.objs.size,lobj (its++[z]) n'):=by simpa using hp
    rw[ep];exact ⟨e9,pD.2.1,pD.2.2.1,pD.2.2.2.1,λv z=>nomatch z⟩
 exact codeAny_compStart_list loop (T.self _ _ _ _ _ st3 loop)
theorem b7 (own capN:List Str) (cap:List Nat) (hi:PI X tg iter wi) (hg:∀Z,PG (uO X own capN scope Z) tg g) (hf:∀Z,PF (uO X own capN scope Z) ifs tf) (he:∀Z,PE (uO X own capN scope Z) elt te)
  (h1:ML scope own capN=true:=by decide +kernel) (h2:yx X.env capN=true:=by rfl) (hcap:uH X capN cap:=by rfl) (hc:X.calm=true:=by rfl) (hs:∀x,foldedSetIterable iter X.env x=pure x:=by intro _;rfl) :
  PE X (.ListComp elt [⟨tg,iter,ifs,0⟩] scope pos) (Ad wi own.length cap g tf te):=by
 intro pins s σ H Q I h;rw[eval_ListComp];refine yv (use:=none) hc (Bk.of h1 h2) hcap hi hg hf he hs I h λD C s' H' I' fC hm q=>?_
 obtain ⟨m,hm⟩:=hm;refine ⟨m,hm,λh' hs'=>?_⟩;obtain ⟨f0,f1,f2,f3,f4,f5⟩:=fC;exact ⟨.ref D,H',I'.turned (t':=s'.toks) (λb o hb e=>(hs'.2 b hb).trans e) f0 f1 f3 f4 f5,rfl,q⟩
theorem j9 (i:Nat) (own capN:List Str) (cap:List Nat) {x:Str} {pos' spos:Pos} (hN:X.N.Nodup) (hi':X.N[i]?=some x) (hx:X.env.scope.names.lookup x=some .local) (hi:PI X tg iter wi) (hg:∀Z,PG (uO X own capN scope Z) tg g) (hf:∀Z,PF (uO X own capN scope Z) ifs tf) (he:∀Z,PE (uO X own capN scope Z) elt te)
  (h1:ML scope own capN=true:=by decide +kernel) (h2:yx X.env capN=true:=by rfl) (hcap:uH X capN cap:=by rfl) (hc:X.calm=true:=by rfl) (hs:∀x,foldedSetIterable iter X.env x=pure x:=by intro _;rfl)
  (hsw:swapsWith (.ListComp elt [⟨tg,iter,ifs,0⟩] scope pos) (some (.Name x pos')) spos.line X.env=pure true:=by rfl) :
  PS X (.Assign [.Name x pos'] (.ListComp elt [⟨tg,iter,ifs,0⟩] scope pos) spos) (HY (Ad wi own.length cap g tf te) (DE i)):=by
 intro pins s σ H D I h;rw[exec_Assign_Name_used _ _ _ _ hsw];refine wpAny_bind (wpAny_standAt (wpAny_bind ?_));rw[arm_evalThenUse_ListComp];refine wpAny_bind (yv (Q:=λv H1=>D.nx (σ.set i (some v)) H1) (use:=some _) hc (Bk.of h1 h2) hcap hi hg hf he hs I h λL C s' H' I' fC hm q=>?_);obtain ⟨m,hm⟩:=hm;obtain ⟨f0,f1,f2,f3,f4,f5⟩:=fC;refine wpAny_assign_Name (xO I' hN hi' (.inl hx) (v:=.ref L) rfl (λs'' I'' ⟨a,sb,ha⟩=>?_) (.inr hx))
 have hCa:C≠a:=by
  rcases ha with e | e
  ·rw[e];exact f1
  ·exact (f4 x a e).symm
 refine ⟨m,hm.at' λo e=>(sb.2 C hCa).trans e,λh' hs'=>?_⟩;have I3:=I''.turned (h':=h') (t':=s''.toks) (λb o hb e=>(hs'.2 b hb).trans e) f0 f1 f3 f4 f5;exact wpAny_pure (wpAny_pure ⟨_,H',I3,q⟩)
end
section
variable {K:FG9} {a:Addr} {xs:List V} {g:TG} {tf:TT} {te:TE} {Q:VK} {σ₀:St} {H:Hp}
theorem fW (Pv:Nat->List V->Hp->Prop) (hz:xs.length<=sizeLine) (h0:Pv 0 [] H) (hl:∀i ys H,i<=xs.length->Pv i ys H->bL K H a xs)
  (hs:∀i x ys H,xs[i]?=some x->ys.length<=i->Pv i ys H->mS σ₀ g tf te x H (λy H'=>Pv (i+1) (ys++[y]) H') (λH'=>Pv (i+1) ys H'))
  (hd:∀ys H,ys.length<=xs.length->Pv xs.length ys H->∀p,H p=none->Q (.ref p) (upd H p (.lst ys))):oj (JA K a) σ₀ g tf te Q H:=by
 refine ⟨λi m ys H=>m=xs.length - i/\i<=xs.length/\ys.length<=i/\Pv i ys H,⟨xs.length,by simp,bJ _,bJ _,h0⟩,?_⟩;rintro i m ys H ⟨rfl,hi,hy,p⟩;have q:=hl i ys H hi p;by_cases hlt:i < xs.length
 ·refine .inr ⟨⟨xs,xs[i],q,by simp [hlt]⟩,by lia,λy H'=>Pv (i+1) (ys++[y]) H',λH'=>Pv (i+1) ys H',λy H' p'=>⟨xs.length - (i+1),by lia,rfl,hlt,by rw[ax,de];lia,p'⟩,λH' p'=>⟨xs.length - (i+1),by lia,rfl,hlt,by lia,p'⟩,λx H' y=>?_⟩;obtain ⟨e,y⟩:=y;subst e;exact hs i x ys _ (y xs q) hy p
 ·have e:i=xs.length:=by lia
  subst e;exact .inl ⟨⟨xs,q,av _⟩,by lia,hd ys H hy p⟩
theorem pT {lo:Int} (Pv:Nat->List V->Hp->Prop) (hz:n<=sizeLine) (h0:Pv 0 [] H)
  (hs:∀i ys H,i < n->ys.length<=i->Pv i ys H->mS σ₀ g tf te (.int (lo+i)) H (λy H'=>Pv (i+1) (ys++[y]) H') (λH'=>Pv (i+1) ys H'))
  (hd:∀ys H,ys.length<=n->Pv n ys H->∀p,H p=none->Q (.ref p) (upd H p (.lst ys))):oj (Bv lo n) σ₀ g tf te Q H:=by
 refine ⟨λi m ys H=>m=n - i/\i<=n/\ys.length<=i/\Pv i ys H,⟨n,by simp,bJ _,bJ _,h0⟩,?_⟩;rintro i m ys H ⟨rfl,hi,hy,p⟩;by_cases hlt:i < n
 ·refine .inr ⟨hlt,by lia,λy H'=>Pv (i+1) (ys++[y]) H',λH'=>Pv (i+1) ys H',λy H' p'=>⟨n - (i+1),by lia,rfl,hlt,by rw[ax,de];lia,p'⟩,λH' p'=>⟨n - (i+1),by lia,rfl,hlt,by lia,p'⟩,λx H' y=>?_⟩;obtain ⟨e,y⟩:=y;subst e y;exact hs i ys _ hlt hy p
 ·have e:i=n:=by lia
  subst e;exact .inl ⟨av _,by lia,hd ys H hy p⟩
end
open Nm
def fe (i j:Int):Prop:=Ls i j\/∃m n,Sz m i/\Sz n j/\m+n<=1000000
def ko (i j:Int):Prop:=j≠0/\Sz 8999 j
theorem wY (h:Sz k i):Builtin.Int.intBits i<=k:=by
 unfold Builtin.Int.intBits;by_cases e:i=0
 ·subst e;simp
 ·have e':(i == 0)=false:=by simpa using e
  rw[e'];have hn:i.natAbs≠0:=by lia
  have:=(Nat.log2_lt hn).mpr h;simp only[gR,if_false]
  lia
theorem fe.ok (h:fe i j):IntMulOk i j:=by
 rcases h with h | ⟨m,n,h1,h2,h3⟩
 ·exact h.ok
 ·have e:(2:Nat)^20=1048576:=by decide
  exact .of_bits (by have:=wY h1;lia) (by have:=wY h2;lia)
section
variable {X:Cx} {a b:Expr} {ta tb:TE} {pos:Pos}
theorem cK:xi X (binaryOp .Mult) (rI fe λi j=>.int (i*j)):=MJ λ_ _ _ _ _ _ _ hc q=>mul_int q hc.ok
theorem fO:xi X (binaryOp .FloorDiv) (rI ko λi j=>.int (i.fdiv j)):=MJ λi j _ _ _ _ _ hc q=>by
 refine floordiv_int hc.1 q (.inl (PyProof.noPylong_of_log2 ?_));have hn:j.natAbs≠0:=by have:=hc.1;lia
 have:=(Nat.log2_lt hn).mpr hc.2
 lia
def LI (t u:TS):TS:=λD σ H=>∃N:St->Hp->Prop,t { D with nx:=N } σ H/\∀σ' H',N σ' H'->u D σ' H'
theorem gY {st:Stmt} (h1:PS X st t) (h2:CG X rest u):CG X (st :: rest) (LI t u):=by
 intro pins s σ H D I h;obtain ⟨N,h,k⟩:=h;refine wpAny_execs_cons (fB (h1 pins s σ H { D with nx:=N } I h) λf s1 q=>?_);cases f with
 | next =>
  obtain ⟨σ',H',I',q⟩:=q;exact h2 pins s1 σ' H' D I' (k _ _ q)
 | ret v=>exact q
 | brk=>exact q
 | cont=>exact q
def JM (K:FG9):V->V->Hp->VK->Prop:=λo i H Q=>∃p xs k v,o=.ref p/\i=.int k/\bL K H p xs/\CA xs k=some v/\Q v H
theorem Gh:Mx X (JM X.K):=by
 intro pins s σ H o i ov iv Q I ro ri h;obtain ⟨p,xs,k,z,rfl,rfl,hq,he,q⟩:=h;cases ro;obtain ⟨t,rfl⟩:=ri;obtain ⟨its,r,pl,hz⟩:=I.list hq;obtain ⟨j,h1,h2,h3,h4,h5⟩:=zS he;obtain ⟨w,ew,rw'⟩:=r.get h2;have hl:=r.length;have hn:=wu;have fin:EP X pins σ Q w s:=⟨z,H,I,rw',q⟩;by_cases h0:0<=k
 ·have hj:k.toNat=j:=by
   rw[seqIndex_of h0 h5] at h1;exact bY h1
  exact wpAny_getItem_list pl.isList h0 (by lia) (by rw[hj];simpa using ew) fin
 ·have hj:(k+(its.toArray.size:Int)).toNat=j:=by
   rw[seqIndex_neg (by lia) h4] at h1;rw[aT,<- hl];exact bY h1
  exact wpAny_getItem_list_neg pl.isList (by lia) (by rw[aT] <;> lia) (by lia) (by rw[hj];simpa using ew) fin
def Eu (K:FG9) (T:String):V->Hp->VK->Prop:=λx H Q=>∃t b,tD K H x t/\PySem.W.kitOne K t (.type T)=some b/\Q (.bl b) H
theorem zj {c:Str} {T:String} {p p2:Pos} (hg:Gl X "isinstance") (hm:X.mg "isinstance"=none) (hb:bootBuiltins c=some (.type T)) (hmc:X.mg c=none) (ha:PE X a ta) (hgc:Gl X c:=by rfl) (hn:c≠"__name__":=by decide)
  (hd:(c == ("__debug__":Str))=false:=by decide) (he:starEach [a,.Name c p2] X.env=[(false,eval a X.env),(false,eval (.Name c p2) X.env)]:=by rfl)
  (hpl:(backTo pos (starEach [.Name c p2] X.env)).any (·.1)=false:=by rfl) (he2:starEach [.Name c p2] X.env=[(false,eval (.Name c p2) X.env)]:=by rfl):PE X (.Call (.Name "isinstance" p) [a,.Name c p2] [] pos) (MI (Eu X.K T) ta):=by
 intro pins s σ H Q I h;refine wpAny_Call_Name_kw (jv I hg hm PyProof.Rows.boot_isinstance ?_);have hA:PA X [a,.Name c p2] (mT ta (mT (tC (.ty T)) Eh)):=ae ha (ae (Dq hgc hmc hb rfl hn hd) ag he2) (by rw[he,he2])
 have hq:mT ta (mT (tC (.ty T)) Eh) σ H (λvs H1=>∃x,vs=[x,.ty T]/\Eu X.K T x H1 Q):=by
  show ta σ H λx H1=>∃x',[x,V.ty T]=[x',V.ty T]/\Eu X.K T x' H1 Q
  have e:(λx H1=>∃x',[x,V.ty T]=[x',V.ty T]/\Eu X.K T x' H1 Q)=λx H1=>Eu X.K T x H1 Q:=by
   funext x H1;apply propext;constructor
   ·rintro ⟨x',e,q⟩;cases e;exact q
   ·intro q;exact ⟨x,rfl,q⟩
  rw[e];exact h
 refine PyProof.Rows.callWith_builtin1 (fB (hA pos pins s σ H _ I hq) λus s1 ⟨vs,H1,I1,r1,x,e,q1⟩=>?_) (by rw[he,he2]) hpl;subst e;obtain ⟨u,w',rfl,ru,rt⟩:=vals2 r1;cases rt;obtain ⟨t,bb,ty,ek,q⟩:=q1;exact yi I1 ru ty ek λtk=>⟨.bl bb,H1,I1.tok tk,rfl,q⟩
end
structure Kind (α:Type) [DecidableEq α] where
 R:FG9->Hp->V->α->Prop
 d:Nat
 inj:∀{X:Cx} {pins:List (Addr×Obj)} {σ:St} {H:Hp} {s:Shared} {x:V} {a b:α},Inv X pins σ H s->R X.K H x a->R X.K H x b->a=b
 rc:∀{X:Cx} {pins:List (Addr×Obj)} {σ:St} {H:Hp} {s:Shared} {x y:V} {v u:Value} {a b:α} {A:Around},Inv X pins σ H s->RelV x v->RelV y u->R X.K H x a->R X.K H y b->A.units+d < cLine->SeqAt.RcAt A s v u (decide (a=b))
 ne:∀{X:Cx} {pins:List (Addr×Obj)} {σ:St} {H:Hp} {s:Shared} {x y:V} {v u:Value} {a b:α} {A:Around},Inv X pins σ H s->RelV x v->RelV y u->R X.K H x a->R X.K H y b->A.units+d < cLine->SeqAt.RcNeAt A s v u (!decide (a=b))
 eq:∀{X:Cx} {pins:List (Addr×Obj)} {σ:St} {H:Hp} {s:Shared} {x y:V} {v u:Value} {a b:α} {A:Around},Inv X pins σ H s->RelV x v->RelV y u->R X.K H x a->R X.K H y b->A.units+d < cLine->SeqAt.EqAt A s v u (decide (a=b))
def Na:Kind Int where
 R:=λ_ _ x i=>x=.int i
 d:=0
 inj:=λ_ h1 h2=>by rw[h1] at h2;cases h2;rfl
 rc:=λ{X pins σ H s x y v u a b A} I rx ry h1 h2 _=>by
  subst h1 h2;obtain ⟨t,rfl⟩:=rx;obtain ⟨t',rfl⟩:=ry;have q:=SeqAt.RcAt.int_int (A:=A) (s:=s) a t b t';rwa [xn] at q
 ne:=λ{X pins σ H s x y v u a b A} I rx ry h1 h2 _=>by
  subst h1 h2;obtain ⟨t,rfl⟩:=rx;obtain ⟨t',rfl⟩:=ry;have q:=SeqAt.RcNeAt.int_int (A:=A) (s:=s) a t b t';rwa [xn] at q
 eq:=λ{X pins σ H s x y v u a b A} I rx ry h1 h2 _=>by
  subst h1 h2;obtain ⟨t,rfl⟩:=rx;obtain ⟨t',rfl⟩:=ry;have q:=SeqAt.EqAt.int_int (A:=A) (s:=s) a t b t';rwa [xn] at q
theorem iW {α β:Type} {F:α->β->Prop}:∀{l1:List α} {l2:List β} {i:Nat} (_:Paired F l1 l2) (h1:i < l1.length) (h2:i < l2.length),F l1[i] l2[i]
 | _,_,_,.nil,h1,_=>absurd h1 (Ht _)
 | _,_,0,.cons r _,_,_=>r
 | _,_,i+1,.cons _ t,h1,h2=>iW (i:=i) t (Nat.lt_of_succ_lt_succ h1) (Nat.lt_of_succ_lt_succ h2)
theorem pI {α β:Type} {F:α->β->Prop} (hF:∀a b x,F a x->F b x->a=b):∀{l1 l2:List α} {l:List β},Paired F l1 l->Paired F l2 l->l1=l2
 | _,_,_,.nil,.nil=>rfl
 | _,_,_,.cons r t,.cons r' t'=>by rw[hF _ _ _ r r',pI hF t t']
theorem zN {α:Type} [DecidableEq α] (as bs:List α) (h:as.length=bs.length):(List.range as.length).all (λj=>decide (as[j]?=bs[j]?))=decide (as=bs):=by
 rw[jK,lE,decide_eq_true_iff];constructor
 ·intro q;apply iO;intro i;by_cases hi:i < as.length
  ·exact of_decide_eq_true (q i (J8.mpr hi))
  ·rw[aW (by lia),aW (by lia)]
 ·rintro rfl i _;simp
section
variable {α:Type} [DecidableEq α] (k:Kind α)
theorem Kind.items {X:Cx} {pins:List (Addr×Obj)} {σ:St} {H:Hp} {s:Shared} {A:Around} (I:Inv X pins σ H s) (hA:A.units+k.d < cLine) {xs ys:List V} {us ws:List Value} {as bs:List α}
  (rx:cI xs us) (ry:cI ys ws) (ha:Paired (λa x=>k.R X.K H x a) as xs) (hb:Paired (λa x=>k.R X.K H x a) bs ys) :
  ∀j (h1:j < us.toArray.size) (h2:j < ws.toArray.size),SeqAt.EqAt A s us.toArray[j] ws.toArray[j] (decide (as[j]?=bs[j]?)):=λj h1 h2=>by
 have l1:j < us.length:=by simpa using h1
 have l2:j < ws.length:=by simpa using h2
 have e1:=rx.length;have e2:=ry.length;have e3:=ha.length;have e4:=hb.length;obtain ⟨u,hu,ru⟩:=rx.get (i:=j) (x:=xs[j]'(by lia)) (by simp);obtain ⟨w,hw,rw'⟩:=ry.get (i:=j) (x:=ys[j]'(by lia)) (by simp);have q:=k.eq (A:=A) I ru rw' (iW ha (by lia) (by lia)) (iW hb (by lia) (by lia)) hA
 have eu:us.toArray[j]=u:=by
  have:=hu;rw[af l1] at this;simpa using this
 have ew:ws.toArray[j]=w:=by
  have:=hw;rw[af l2] at this;simpa using this
 rw[eu,ew,af (show j < as.length by lia),af (show j < bs.length by lia)];have e5:decide (some as[j]=some bs[j])=decide (as[j]=bs[j]):=by simp
 rw[e5];exact q
theorem yR {α:Type} [DecidableEq α] (as bs:List α) {n m:Nat} (h1:as.length=n) (h2:bs.length=m):((List.range (min n m)).all (λj=>decide (as[j]?=bs[j]?)) && n == m)=decide (as=bs):=by
 subst h1 h2;by_cases e:as.length=bs.length
 ·rw[show min as.length bs.length=as.length by lia,zN as bs e];simp [e]
 ·have h1:(as.length == bs.length)=false:=by simpa using e
  rw[h1,Bool.and_false];exact (decide_eq_false λz=>e (by rw[z])).symm
def M7:Kind (List α) where
 R:=λK H x as=>∃p xs,x=.ref p/\mB K H p xs/\Paired (λa x=>k.R K H x a) as xs
 d:=k.d+1
 inj:=λ{X pins σ H s x a b} I h1 h2=>by
  obtain ⟨p,xs,rfl,hp,pa⟩:=h1;obtain ⟨q,ys,e,hq,pb⟩:=h2;cases e;have e:=I.tuple_inj hp hq;subst e;exact pI (F:=λa x=>k.R X.K H x a) (λa b x=>k.inj I) pa pb
 rc:=λ{X pins σ H s x y v u a b A} I rx ry h1 h2 hA=>by
  obtain ⟨p,xs,rfl,hp,pa⟩:=h1;obtain ⟨q,ys,rfl,hq,pb⟩:=h2;cases rx;cases ry;obtain ⟨us,r1,t1,_⟩:=I.tuple hp;obtain ⟨ws,r2,t2,_⟩:=I.tuple hq;have z:=SeqAt.RcAt.tuples (A:=A) (e:=λj=>decide (a[j]?=b[j]?)) (show s.heap.IsTuple p us.toArray from t1) (show s.heap.IsTuple q ws.toArray from t2) (by lia) (k.items (A:=A.in1) I (by show A.units+1+k.d < cLine;lia) r1 r2 pa pb);rwa [yR a b (by rw[pa.length,r1.length];simp) (by rw[pb.length,r2.length];simp)] at z
 ne:=λ{X pins σ H s x y v u a b A} I rx ry h1 h2 hA=>by
  obtain ⟨p,xs,rfl,hp,pa⟩:=h1;obtain ⟨q,ys,rfl,hq,pb⟩:=h2;cases rx;cases ry;obtain ⟨us,r1,t1,_⟩:=I.tuple hp;obtain ⟨ws,r2,t2,_⟩:=I.tuple hq;have z:=SeqAt.RcNeAt.tuples (A:=A) (e:=λj=>decide (a[j]?=b[j]?)) (show s.heap.IsTuple p us.toArray from t1) (show s.heap.IsTuple q ws.toArray from t2) (by lia) (k.items (A:=A.in1) I (by show A.units+1+k.d < cLine;lia) r1 r2 pa pb);rwa [yR a b (by rw[pa.length,r1.length];simp) (by rw[pb.length,r2.length];simp)] at z
 eq:=λ{X pins σ H s x y v u a b A} I rx ry h1 h2 hA=>by
  obtain ⟨p,xs,rfl,hp,pa⟩:=h1;obtain ⟨q,ys,rfl,hq,pb⟩:=h2;cases rx;cases ry;by_cases e:p=q
  ·subst e;have e:=I.tuple_inj hp hq;subst e;rw[pI (F:=λa x=>k.R X.K H x a) (λa b x=>k.inj I) pa pb,decide_eq_true rfl];exact SeqAt.EqAt.same _
  ·obtain ⟨us,r1,t1,_⟩:=I.tuple hp;obtain ⟨ws,r2,t2,_⟩:=I.tuple hq;have z:=SeqAt.RcAt.tuples (A:=A) (e:=λj=>decide (a[j]?=b[j]?)) (show s.heap.IsTuple p us.toArray from t1) (show s.heap.IsTuple q ws.toArray from t2) (by lia) (k.items (A:=A.in1) I (by show A.units+1+k.d < cLine;lia) r1 r2 pa pb);rw[yR a b (by rw[pa.length,r1.length];simp) (by rw[pb.length,r2.length];simp)] at z;exact .of_refs e z
def Kind.via {β:Type} [DecidableEq β] (f:β->α) (fi:∀a b,f a=f b->a=b) (R':FG9->Hp->V->β->Prop) (im:∀{K H x b},R' K H x b->k.R K H x (f b)):Kind β where
 R:=R'
 d:=k.d
 inj:=λI h1 h2=>fi _ _ (k.inj I (im h1) (im h2))
 rc:=λ{X pins σ H s x y v u a b A} I rx ry h1 h2 hA=>by
  have z:=k.rc (A:=A) I rx ry (im h1) (im h2) hA;rwa [decide_eq_decide.mpr (show f a=f b↔a=b from ⟨fi a b,λe=>by rw[e]⟩)] at z
 ne:=λ{X pins σ H s x y v u a b A} I rx ry h1 h2 hA=>by
  have z:=k.ne (A:=A) I rx ry (im h1) (im h2) hA;rwa [decide_eq_decide.mpr (show f a=f b↔a=b from ⟨fi a b,λe=>by rw[e]⟩)] at z
 eq:=λ{X pins σ H s x y v u a b A} I rx ry h1 h2 hA=>by
  have z:=k.eq (A:=A) I rx ry (im h1) (im h2) hA;rwa [decide_eq_decide.mpr (show f a=f b↔a=b from ⟨fi a b,λe=>by rw[e]⟩)] at z
end
def CI (K:FG9) (H:Hp) (x:V) (n:Int×Int):Prop:=∃p,x=.ref p/\mB K H p [.int n.1,.int n.2]
def M8:Kind (Int×Int):=(M7 Na).via (λn=>[n.1,n.2]) (λa b e=>by cases a;cases b;simp at e;rw[e.1,e.2]) CI λ⟨p,e,h⟩=>⟨p,_,e,h,.cons rfl (.cons rfl .nil)⟩
def MV (K:FG9):R2:=λx y H Q=>∃(α:Type) (_:DecidableEq α) (k:Kind α) (a b:α),k.d<=50/\k.R K H x a/\k.R K H y b/\Q (.bl (!decide (a=b))) H
theorem BY (hu:X.A.units+50 < cLine):xi X (compareOp .NotEq) (MV X.K):=by
 intro pins s σ H x y v u Q I rx ry h;obtain ⟨α,_,k,a,b,hd,ha,hb,q⟩:=h;exact k.ne (A:=X.A) I rx ry ha hb (by lia) _ _ _ _ ⟨.bl (!decide (a=b)),H,I,rfl,q⟩
theorem Jg (hr:jw k A):A.units+50 < cLine:=by have:=hr.units;lia
def Inner (H:Hp) (p q:Addr):Prop:=∃a b c:Int,H p=some (.lst [.int a,.int b,.int c,.ref q])
def cG (p:Addr) (H H':Hp):Prop:=(∀b o,H b=some o->b≠p->H' b=some o)/\∀q,Inner H p q->Inner H' p q
theorem cG.refl (H:Hp):cG p H H:=⟨λ_ _ h _=>h,λ_ h=>h⟩
theorem cG.trans (a:cG p H H1) (b:cG p H1 H2):cG p H H2:=⟨λc o h n=>b.1 c o (a.1 c o h n) n,λq h=>b.2 q (a.2 q h)⟩
theorem Inner.inj (h:Inner H p q) (h':Inner H p q'):q=q':=by
 obtain ⟨a,b,c,e⟩:=h;obtain ⟨a',b',c',e'⟩:=h';rw[e] at e';have:=HO.lst.inj (bY e');simp at this;exact this.2.2.2
theorem cG.set (h:H p=some (.lst [.int a,.int b,.int c,.ref q])):cG p H (upd H p (.lst [.int a',.int b',.int c',.ref q])) :=
 ⟨λb u h n=>by rw[br n];exact h,λq' h'=>by
  rw[(Inner.inj ⟨a,b,c,h⟩ h').symm];exact ⟨a',b',c',aJ⟩⟩
theorem aH.upto (h:aH H H'):cG p H H':=⟨λb o e _=>h b o e,λq ⟨a,b,c,e⟩=>⟨a,b,c,h _ _ e⟩⟩
theorem aH.new (h:H p=Option.none):aH H (upd H p o):=λb u e=>by rw[br (eE e h)];exact e
theorem aH.sqt {K:FG9} (e:aH H H') (h:mB K H a xs):mB K H' a xs:=by
 rcases h with (h | ⟨o,h⟩) | h
 ·exact .inl (.inl (e _ _ h))
 ·exact .inl (.inr ⟨o,e _ _ h⟩)
 ·exact .inr h
theorem aH.num {K:FG9} (e:aH H H') (h:CI K H x n):CI K H' x n:=by obtain ⟨p,q,r⟩:=h;exact ⟨p,q,e.sqt r⟩
section
variable {σ:St} {H:Hp} {D:Ends}
theorem aQ {t:TS} (e:σ0=σ) (h:t D σ H):t D σ0 H:=by rw[e];exact h
theorem Ku (h:t { D with nx:=u D } σ H):LJ t u D σ H:=h
theorem Iy (h:D.nx σ H):JE D σ H:=h
theorem KL {g:TG} (h:te σ H λx H1=>g x σ H1 D.nx):HY te g D σ H:=h
theorem FI (h:Q (σ.set i (some v)) H):DE i v σ H Q:=h
theorem Kv (h:te σ H D.rt):LK te D σ H:=h
theorem KE (h:c σ H λb H1=>if b=true then t D σ H1 else u D σ H1):LP c t u D σ H:=h
theorem IG (h:te σ H λ_ H1=>D.nx σ H1):JH te D σ H:=h
theorem Kw (h:ta σ H λvs H1=>∃v w,vs=[v,w]/\D.nx ((σ.set i (some v)).set j (some w)) H1):LL i j ta D σ H:=h
theorem IK 
  (h:to σ H λo H1=>ti σ H1 λi H2=>tget o i H2 λx H3=>te σ H3 λy H4=>tip x y H4 λz H5=>tset o i z H5 λH6=>D.nx σ H6):JI to ti te tget tip tset D σ H:=h
theorem KD (h:Q (.int (f i j)) H):ipI f (.int i) (.int j) H Q:=⟨i,j,rfl,rfl,h⟩
theorem KG {g:TG} (h:wi σ H λJ H1=>∃W:Nat->Nat->St->Hp->Prop,(∃m,W 0 m σ H1)/\∀i m σ H,W i m σ H →
  (J.stop i H/\D.nx σ H)\/(J.go i H/\∃N:St->Hp->Prop,(∀σ' H',N σ' H'->∃m',m' < m/\W (i+1) m' σ' H')/\∀x H',J.yld i H x H'->g x σ H' λσ2 H2=>tb { D with nx:=N,ct:=N,bk:=D.nx } σ2 H2)):LQ wi g tb D σ H:=h
variable {Q:VK} {QA:List V->Hp->Prop} {QB:Bool->Hp->Prop}
theorem Kr (e:σ[i]?=some (some v)) (h:Q v H):Kh i σ H Q:=⟨v,e,h⟩
theorem MT (h:Q v H):tC v σ H Q:=h
theorem Mc (h:ta σ H λx H1=>tb σ H1 λy H2=>r x y H2 Q):LM r ta tb σ H Q:=h
theorem L8 (h:ta σ H λx H1=>r x H1 Q):MI r ta σ H Q:=h
theorem Mf {g:Int->Int->V} (h:Q (g i j) H):JL g (.int i) (.int j) H Q:=⟨i,j,rfl,rfl,h⟩
theorem eC {g:Int->Int->V} (hc:C i j) (h:Q (g i j) H):rI C g (.int i) (.int j) H Q:=⟨i,j,rfl,rfl,hc,h⟩
theorem MU {g:Int->V} (h:Q (g i) H):rU g (.int i) H Q:=⟨i,rfl,h⟩
theorem KJ (h:Q (.bl (decide (i=j))) H):MY (.int i) (.int j) H Q:=⟨rfl,by
 have e:decide (V.int i=V.int j)=decide (i=j):=by simp
 rw[e];exact h⟩
theorem KA (h:Q (.bl (!decide (i=j))) H):MW (.int i) (.int j) H Q:=⟨rfl,by
 have e:decide (V.int i=V.int j)=decide (i=j):=by simp
 rw[e];exact h⟩
theorem KI (h:Q (.bl (decide (i=j))) H):MY (.str i) (.str j) H Q:=⟨rfl,by
 have e:decide (V.str i=V.str j)=decide (i=j):=by simp
 rw[e];exact h⟩
theorem Kz (h:Q (.bl (!decide (i=j))) H):MW (.str i) (.str j) H Q:=⟨rfl,by
 have e:decide (V.str i=V.str j)=decide (i=j):=by simp
 rw[e];exact h⟩
theorem Ir (h:t σ H λx H'=>∃k,x=.bl k/\QB k H'):JB t σ H QB:=h
theorem L9 (h:t σ H λx H'=>∃k,x=.bl k/\QB k H'):tB t σ H QB:=h
theorem KN (h:t σ H λc H1=>if c=true then u σ H1 QB else QB false H1):LR t u σ H QB:=h
theorem Mb (h:t σ H λc H1=>if c=true then QB true H1 else u σ H1 QB):tOr t u σ H QB:=h
theorem Kx (h:t σ H λc H1=>QB (!c) H1):LN t σ H QB:=h
theorem IL (h:t σ H λx H1=>∃c,x=.bl c/\if c=true then u σ H1 Q else Q (.bl false) H1):JJ t u σ H Q:=h
theorem Iw (h:t σ H λx H1=>∃c,x=.bl c/\Q (.bl (!c)) H1):JD t σ H Q:=h
theorem Kq (h:QB true H):LG σ H QB:=h
theorem Ky (h:QA [] H):Eh σ H QA:=h
theorem IH (h:ta σ H λx H1=>tr σ H1 λxs H2=>QA (x :: xs) H2):mT ta tr σ H QA:=h
theorem IJ (h:t σ H λvs H1=>sp vs H1 Q E):Fn sp [] E t σ H Q:=by
 have e:(λvs H1=>sp (vs++[]) H1 Q E)=λvs H1=>sp vs H1 Q E:=by funext vs H1;rw[mQ]
 show t σ H λvs H1=>sp (vs++[]) H1 Q E
 rw[e];exact h
theorem Md (h:t σ H λvs H1=>r vs H1 Q):MS r t σ H Q:=h
theorem BU {K:FG9} (hx:mB K H p xs) (e:CA xs i=some v) (h:Q v H):KO K (.ref p) (.int i) H Q:=⟨p,xs,i,v,rfl,rfl,hx,e,h⟩
theorem cA {K:FG9} (hx:bL K H p xs) (e:CA xs i=some v) (h:Q v H):KP K (.ref p) (.int i) H Q:=⟨p,xs,i,v,rfl,rfl,hx,e,h⟩
theorem IF {K:FG9} (hx:bL K H p xs) (e:CA xs i=some v) (h:Q v H):JM K (.ref p) (.int i) H Q:=⟨p,xs,i,v,rfl,rfl,hx,e,h⟩
theorem d6 (hx:H p=some (.lst xs)) (e:E5 xs.length i=some j) (ey:xs.set j v=ys) (h:QH (upd H p (.lst ys))):JK (.ref p) (.int i) v H QH:=⟨p,xs,i,j,rfl,rfl,hx,e,by rw[ey];exact h⟩
theorem ID (h:to σ H λo H1=>ti σ H1 λi H2=>t o i v H2 λH3=>QS σ H3):Mq to ti t v σ H QS:=h
theorem FJ (h:t v σ H λσ' H'=>u r σ' H' QS):JW t u (v :: r) σ H QS:=⟨v,r,rfl,h⟩
theorem IE (h:QS σ H):Mr [] σ H QS:=⟨rfl,h⟩
theorem IC {K:FG9} (hx:mB K H a xs) (hl:xs.length=n) (h:t xs σ H QS):Le K n t (.ref a) σ H QS:=⟨a,xs,rfl,hx,hl,h⟩
theorem Ma (h:te σ H λx H1=>tl σ H1 λl H2=>th σ H2 λu H3=>r x l u H3 Q):tSl r te tl th σ H Q:=h
theorem Et (h:QO none H):CT σ H QO:=h
theorem Iv (h:t σ H λx H1=>∃i,x=.int i/\QO (some i) H1):JC t σ H QO:=h
variable {R:It->Hp->Prop} {K:FG9}
theorem FG (h:tl σ H λx H1=>∃a,x=.ref a/\(∃xs,bL K H1 a xs)/\R (JA K a) H1):Gd K tl σ H R:=h
theorem FF (h:ta σ H λvs H1=>∃j:Int,vs=[.int j]/\-(2^62)<=j/\j < 2^62/\R (Bv 0 j.toNat) H1):JT ta σ H R:=h
theorem FE (h:ta σ H λvs H1=>∃i j:Int,vs=[.int i,.int j]/\(-(2^62)<=i/\i < 2^62/\-(2^62)<=j/\j < 2^62)/\R (Bv i (j - i).toNat) H1):JS ta σ H R:=h
theorem II {g:TG} (e:E4 k cap σ=σ₀) (h:wi σ H λJ H1=>oj J σ₀ g tf te Q H1):Ad wi k cap g tf te σ H Q:=by
 unfold Ad;rw[e];exact h
theorem Iq {g:TG} {NY:V->Hp->Prop} (h:g x σ H λσ2 H2=>tf σ2 H2 λb H3=>if b=true then te σ2 H3 NY else NN H3):mS σ g tf te x H NY NN:=h
theorem Me (h:to σ H λx H1=>MR K T x H1/\t σ H1 λxs H2=>r x xs H2 Q):tBM K T r to t σ H Q:=h
def Mz (Q:VK) (xs:List V) (H:Hp):Prop:=xs.length<=sizeLine/\∀p,H p=none->Q (.ref p) (upd H p (.tup xs))
def MB (Q:VK) (xs:List V) (H:Hp):Prop:=xs.length<=sizeLine/\∀p,H p=none->Q (.ref p) (upd H p (.lst xs))
theorem Ks (h:t σ H (Mz Q)):LH t σ H Q:=h
theorem KC (h:t σ H (MB Q)):LO t σ H Q:=h
theorem ij (h:Nat.ble n 1000=true):n<=sizeLine:=bf (bK (Nat.le_of_ble_eq_true h))
theorem bW {xs:List V} (h:∀p H',aH H H'->H' p=some (.tup xs)->Q (.ref p) H') (hl:Nat.ble xs.length 1000=true:=by rfl):Mz Q xs H :=
 ⟨ij hl,λp hp=>h p _ (aH.new hp) aJ⟩
theorem c9 {xs:List V} (h:∀p H',aH H H'->H p=none->H' p=some (.lst xs)->Q (.ref p) H') (hl:Nat.ble xs.length 1000=true:=by rfl):MB Q xs H :=
 ⟨ij hl,λp hp=>h p _ (aH.new hp) hp aJ⟩
theorem Mn {A B:Prop} (h:B):if (!true)=true then A else B:=K7 h
theorem Mo {A B:Prop} (h:A):if (!false)=true then A else B:=Mm h
def WB (tb:TS) (D:Ends) (Pv:St->Hp->Prop) (μ:St->Hp->Nat) (n:Nat) (σ:St) (H:Hp):Prop:=∃N:St->Hp->Prop,(∀σ' H',N σ' H'->∃m',m' < n/\(m'=μ σ' H'/\Pv σ' H'))/\tb { D with nx:=N,ct:=N,bk:=D.nx } σ H
theorem L7 (h:tb { D with nx:=λσ' H'=>Pv σ' H'/\μ σ' H' < n,ct:=λσ' H'=>Pv σ' H'/\μ σ' H' < n,bk:=D.nx } σ H):WB tb D Pv μ n σ H :=
 ⟨_,λσ' H' ⟨p,l⟩=>⟨_,l,rfl,p⟩,h⟩
theorem CP (Pv:St->Hp->Prop) (μ:St->Hp->Nat) (h0:Pv σ H) (hs:∀σ H,Pv σ H->c σ H λb H1=>if b=true then WB tb D Pv μ (μ σ H) σ H1 else D.nx σ H1):Fm c tb D σ H:=by
 refine ⟨λm σ H=>m=μ σ H/\Pv σ H,⟨_,rfl,h0⟩,?_⟩;rintro m σ H ⟨rfl,p⟩;exact hs σ H p
end
def fI (H:Hp) (p:Addr):Prop:=∃(q:Addr) (a b c:Int) (cs:List Int),H p=some (.lst [.int a,.int b,.int c,.ref q])/\H q=some (.lst (cs.map V.int))/\0<=a/\0<=c/\c<=(cs.length:Int)/\∀x∈cs,(0:Int)<=x
theorem EZ {H:Hp} {cs:List Int} (hp:H p=some (.lst [.int a,.int b,.int c,.ref q])) (hq:H q=some (.lst (cs.map V.int))):q≠p:=λe=>by
 rw[e,hp] at hq;have h:=HO.lst.inj (bY hq);cases cs with
 | nil=>cases h
 | cons x1 cs=>cases cs with
  | nil=>cases h
  | cons x2 cs=>cases cs with
   | nil=>cases h
   | cons x3 cs=>cases cs with
    | nil=>cases h
    | cons x4 cs=>simp at h
theorem fI.same (h:fI H p) (e:aH H H'):fI H' p:=by obtain ⟨q,a,b,c,cs,h1,h2,r⟩:=h;exact ⟨q,a,b,c,cs,e _ _ h1,e _ _ h2,r⟩
theorem cG.tup {H H':Hp} {p r:Addr} {xs:List V} (u:cG p H H') (B:fI H p) (h:H r=some (.tup xs)):H' r=some (.tup xs):=by
 obtain ⟨q,a,b,c,cs,h1,_⟩:=B;exact u.1 r _ h λe=>by rw[e,h1] at h;cases h
theorem cG.other (u:cG p H H') (n:r≠p) (h:H r=some o):H' r=some o:=u.1 r _ h n
theorem fI.inner (h:fI H p):∃q,Inner H p q/\∃xs,H q=some (.lst xs):=by obtain ⟨q,a,b,c,cs,h1,h2,_⟩:=h;exact ⟨q,⟨a,b,c,h1⟩,_,h2⟩
theorem fI.upd (h:fI H p) (hi:Inner H p q) (n1:r≠p) (n2:r≠q):fI (L2.upd H r o) p:=by
 obtain ⟨q',a,b,c,cs,h1,h2,z⟩:=h;have e:q'=q:=Inner.inj ⟨a,b,c,h1⟩ hi;subst e;exact ⟨q',a,b,c,cs,by rw[br n1.symm];exact h1,by rw[br n2.symm];exact h2,z⟩
theorem Inner.upd (hi:Inner H p q) (n1:r≠p):Inner (L2.upd H r o) p q:=by obtain ⟨a,b,c,h⟩:=hi;exact ⟨a,b,c,by rw[br n1.symm];exact h⟩
def Ib:Sp:=λvs H Q _=>∃p n,vs=[.ref p,.int n]/\fI H p/\0 < n/\n < 2^64/\∀v H',0<=v->v < n->fI H' p->cG p H H'->Q (.int v) H'
inductive Fu (K:FG9) (vs:List V) (H:Hp) (Q:VK) (E9:XK):Prop
 | mk (a:Addr) (ns:List Int):vs=[.ref a]->bL K H a (ns.map V.int)->ns.length<=63->(∀p H',H p=none->fI H' p->aH H H'->Q (.ref p) H')->Fu K vs H Q E9
inductive vq (K:FG9) (vs:List V) (H:Hp) (Q:VK) (E9:XK):Prop
 | mk (a:Addr) (ns:List Int):vs=[.ref a]->bL K H a (ns.map V.int)->ns.length<=63->(∀H',Q (.bl true) H')->vq K vs H Q E9
def Km:Sp:=λvs H Q _=>∃t b,vs=[.int t,.int b]/\0 < b/\Sz 8999 b/\∀r H',aH H H'->H' r=some (.tup [.int (lo t b),.int (hi t b)])->Q (.ref r) H'
def LV:Sp:=λvs H Q _=>∃a b,vs=[.int a,.int b]/\Q (.int (g a b)) H
def El:Sp:=λvs H Q _=>∃t b,vs=[.int t,.int b]/\b≠0/\Sz 8999 b/\∀r H',aH H H'->H' r=some (.tup [.int (lo (if b < 0 then -t else t) (if b < 0 then -b else b)),.int (hi (if b < 0 then -t else t) (if b < 0 then -b else b))])->Q (.ref r) H'
def JX (a b c d:Int):Int:=a*d+c*b
def Gv (a b c d:Int):Int:=a*d - c*b
def Gs (a _b c _d:Int):Int:=a*c
def C9 (K:FG9) (f:Int->Int->Int->Int->Int):Sp:=λvs H Q _=>∃p q a b c d,vs=[.ref p,.ref q]/\mB K H p [.int a,.int b]/\mB K H q [.int c,.int d]/\0 < b/\0 < d/\Sz 4000 a/\Sz 4000 b/\Sz 4000 c/\Sz 4000 d /\
 ∀r H',aH H H'->H' r=some (.tup [.int (lo (f a b c d) (b*d)),.int (hi (f a b c d) (b*d))])->Q (.ref r) H'
theorem b9 {α β:Type} {F:α->β->Prop}:∀{l1 l1':List α} {l2 l2':List β},Paired F l1 l2->Paired F l1' l2'->Paired F (l1++l1') (l2++l2')
 | _,_,_,_,.nil,h=>h
 | _,_,_,_,.cons r t,h=>.cons r (b9 t h)
theorem cR {h:Heap} (ha:h.get? a=some o) (hb:h.get? b=some u) (hc:o.cls≠u.cls):a≠b:=λe=>by
 subst e;rw[ha] at hb;cases hb;exact hc rfl
theorem jL (h:a≠b):Value.type a≠Value.type b:=λe=>h (by injection e)
theorem xK {z TI TO i1 i2 l1 l2:Addr} (hz:IsZip h z TI TO f0) (hTI:IsPair h TI (.ref i1) (.ref i2)) (hTO:IsPair h TO a b)
  (h1:h.IsListIter i1 l1 k1) (h2:h.IsListIter i2 l2 k2) (hl1:h.IsList l1 xs) (hl2:h.IsList l2 ys) (hT:TI≠TO) (hi:i1≠i2):ZipApart z TI TO i1 i2 l1 l2:=by
 obtain ⟨o1,g1,c1,_⟩:=h1;obtain ⟨o2,g2,c2,_⟩:=h2;obtain ⟨p1,q1,d1,_⟩:=hl1;obtain ⟨p2,q2,d2,_⟩:=hl2;refine ⟨cR hTI hz ?_,cR hTO hz ?_,cR g1 hz ?_,cR g2 hz ?_,hT,cR hTI g1 ?_,cR hTI g2 ?_,cR hTO g1 ?_,cR hTO g2 ?_,hi,cR q1 hz ?_,cR q1 hTO ?_,cR q1 g1 ?_,cR q1 g2 ?_,cR q2 hz ?_,cR q2 hTO ?_,cR q2 g1 ?_,cR q2 g2 ?_⟩
 all_goals first
  | (rw[d1];first | (rw[c1];exact jL (by decide)) | (rw[c2];exact jL (by decide)) | exact jL (by decide))
  | (rw[d2];first | (rw[c1];exact jL (by decide)) | (rw[c2];exact jL (by decide)) | exact jL (by decide))
  | (rw[c1];exact jL (by decide))
  | (rw[c2];exact jL (by decide))
  | exact jL (by decide)
def Lq (K : FG9) (l1 l2 : Addr) : It :=
  ⟨λi H => ∃ xs ys x y, bL K H l1 xs /\ bL K H l2 ys /\ xs[i]? = some x /\ ys[i]? = some y,
   λi H v H' => ∃ p x y, v = .ref p /\ H p = none /\ H' = upd H p (.tup [x, y]) /\ (∀ xs, bL K H l1 xs → xs[i]? = some x) /\ ∀ ys, bL K H l2 ys → ys[i]? = some y,
   λi H => ∃ xs ys, bL K H l1 xs /\ bL K H l2 ys /\ (xs.length ≤ i \/ ys.length ≤ i)⟩
def tnZ (z TI TO i1 i2 l1 l2:Addr) (i:Nat) (h:Heap):Prop:=IsZip h z TI TO .none/\IsPair h TI (.ref i1) (.ref i2)/\(∃a b,IsPair h TO a b)/\h.IsListIter i1 l1 i/\h.IsListIter i2 l2 i
theorem Fj {P:Program} {w:World} {K:FG9} {elts:List Expr} {kk:Nat} {tpos:Pos} (z TI TO i1 i2 l1 l2:Addr) (hT:TI≠TO) (hi:i1≠i2):Turn P w K (.Tuple elts kk tpos) (Lq K l1 l2) [z,TI,TO,i1,i2] z (tnZ z TI TO i1 i2 l1 l2) where
 mem:=by simp
 obj:=λi h st b hb=>by
  obtain ⟨hz,hTI,⟨a,c,hTO⟩,⟨o1,g1,c1,d1⟩,⟨o2,g2,c2,d2⟩⟩:=st;simp only[aA,aP,or_false] at hb;rcases hb with rfl | rfl | rfl | rfl | rfl
  ·exact ⟨_,hz,λv q=>nomatch q⟩
  ·exact ⟨_,hTI,λv q=>nomatch q⟩
  ·exact ⟨_,hTO,λv q=>nomatch q⟩
  ·exact ⟨o1,g1,λv q=>by rw[d1] at q;cases q⟩
  ·exact ⟨o2,g2,λv q=>by rw[d2] at q;cases q⟩
 keep:=λi h h' st k=>by
  obtain ⟨hz,hTI,⟨a,c,hTO⟩,h1,h2⟩:=st;exact ⟨k z (by simp) _ hz,k TI (by simp) _ hTI,⟨a,c,k TO (by simp) _ hTO⟩,h1.at λo e=>k i1 (by simp) o e,h2.at λo e=>k i2 (by simp) o e⟩
 item:=by
  intro X hP hw hK hc i pins s σ H E I hf st hg;subst hP hw hK;obtain ⟨hz,hTI,⟨a,c,hTO⟩,h1,h2⟩:=st;obtain ⟨xs,ys,x,y,qx,qy,ex,ey⟩:=hg;obtain ⟨us,rx,px,_⟩:=I.list qx;obtain ⟨ws,ry,py,_⟩:=I.list qy;obtain ⟨u,eu,ru⟩:=rx.get ex;obtain ⟨v,ev,rv⟩:=ry.get ey;have D:=xK hz hTI hTO h1 h2 px.isList py.isList hT hi;refine wpAny_pyNext_zip_item D hz hTI hTO h1 h2 px.isList py.isList (x:=u) (y:=v) (by simpa using eu) (by simpa using ev) λh' a1 a2 a3 a4 a5 a6 hk=>?_
  refine ⟨_,rfl,wpAny_letOwnedTupleGo_zip a1 λh'' hz'' hs=>?_⟩;have hT0:H s.heap.objs.size=none:=I.hok.fresh (av _);have zne:s.heap.objs.size≠z:=D7 (Heap.lt_size hz)
  have up:∀b o,b∉[z,TO,i1,i2]->s.heap.get? b=some o->h''.get? b=some o:=λb o hb e=>by
   simp only[aA,aP,or_false,not_or] at hb;exact (hs.2 b hb.1).trans (hk b o hb.1 hb.2.1 hb.2.2.1 hb.2.2.2 e)
  have fx:∀b∈[z,TO,i1,i2],ja X pins H b:=λb hb=>hf b (by
   simp only[aA,aP,or_false] at hb ⊢;rcases hb with rfl | rfl | rfl | rfl <;> simp)
  have nx:∀b o,H b=some o->b∉[z,TO,i1,i2]:=λb o e hb=>by
   have:=(fx b hb).1;rw[this] at e;cases e
  have nT:∀{b:Addr} {o:HO},H b=some o->b≠s.heap.objs.size:=λe q=>by rw[q,hT0] at e;cases e
  have tup:h''.get? s.heap.objs.size=some { cls:=.type "tuple",data:=.seq #[u,v] }:=(hs.2 _ zne).trans a5
  have I2:Inv X pins σ (upd H s.heap.objs.size (.tup [x,y])) { s with heap:=h'' }:=by
   refine I.step (g':=s.gens) (d':=s.drawn) (t':=s.toks) (ch:=[z,TO,i1,i2]) (λb hb=>?_) (λb o _ _ hb e _=>up b o hb e) (λb o _ _ hb e _=>⟨o.slots,up b o hb e⟩) (λb o hb e n=>?_)
    (λb o hb e=>⟨o,up b o hb e⟩) (λb q e=>by rw[br (nT e)];exact e) (λb o q e=>by rw[br (nT e)];exact e) (λb q e=>⟨#[],by rw[br (nT e),e];simp⟩) (λm hm=>?_) (λb o e=>?_) I.bare
   ·obtain ⟨_,f1,_,f3,f4,f5⟩:=fx b hb;exact ⟨f3,f1,f4,f5⟩
   ·rw[br (cC (Heap.lt_size e))];exact n
   ·obtain ⟨o,es,ep,ho,r⟩:=hm;exact ⟨o,es,ep,up _ o (λz=>(fx _ z).2.1 rfl) ho,r⟩
   ·by_cases hb:b=s.heap.objs.size
    ·subst hb;rw[aJ] at e;cases e;exact ⟨ij rfl,[u,v],.cons ru (.cons rv .nil),⟨_,tup,rfl,_,rfl⟩⟩
    ·rw[br hb] at e;refine (I.hok b o e).stay (λc v' hc q=>up c v' ?_ q) (λc q=>by rw[br (nT q)];exact q) λc xs q=>by rw[br (nT q)];exact q
     rcases hc with rfl | hc
     ·exact nx _ _ e
     ·exact nx _ _ hc
  refine ⟨.ref s.heap.objs.size,_,I2,rfl,⟨_,x,y,rfl,hT0,rfl,λxs' q=>by rw[I.list_inj q qx];exact ex,λys' q=>by rw[I.list_inj q qy];exact ey⟩,?_,λb hb=>?_⟩
  ·refine ⟨hz'',(hs.2 _ D.TIz).trans (hk _ _ D.TIz D.TITO D.TIi1 D.TIi2 hTI),⟨_,_,(hs.2 _ D.TOz).trans a2⟩,a3.at λo e=>(hs.2 _ D.i1z).trans e,a4.at λo e=>(hs.2 _ D.i2z).trans e⟩
  ·obtain ⟨o,e,_⟩:∃o,s.heap.get? b=some o/\True:=by
    obtain ⟨o1,g1,_⟩:=h1;obtain ⟨o2,g2,_⟩:=h2;simp only[aA,aP,or_false] at hb;rcases hb with rfl | rfl | rfl | rfl | rfl
    ·exact ⟨_,hz,trivial⟩
    ·exact ⟨_,hTI,trivial⟩
    ·exact ⟨_,hTO,trivial⟩
    ·exact ⟨_,g1,trivial⟩
    ·exact ⟨_,g2,trivial⟩
   rw[br (cC (Heap.lt_size e))];exact (hf b hb).1
 done:=by
  intro X hP hw hK hc i pins s σ H E I hf st hg;subst hP hw hK;obtain ⟨hz,hTI,⟨a,c,hTO⟩,h1,h2⟩:=st;obtain ⟨xs,ys,qx,qy,hend⟩:=hg;obtain ⟨us,rx,px,_⟩:=I.list qx;obtain ⟨ws,ry,py,_⟩:=I.list qy;have lx:=rx.length;have ly:=ry.length;have D:=xK hz hTI hTO h1 h2 px.isList py.isList hT hi
  refine wpAny_pyNext_zip_end (I.ok.hd hc) D hz hTI hTO h1 h2 px.isList py.isList (by
   rcases hend with q | q
   ·exact .inl (by simp;lia)
   ·exact .inr (by simp;lia)) λh' hk=>⟨rfl,?_⟩
  have up:∀b o,b∉[z,TO,i1,i2]->s.heap.get? b=some o->h'.get? b=some o:=λb o hb e=>by
   simp only[aA,aP,or_false,not_or] at hb;exact hk b o hb.1 hb.2.1 hb.2.2.1 hb.2.2.2 e
  have fx:∀b∈[z,TO,i1,i2],ja X pins H b:=λb hb=>hf b (by
   simp only[aA,aP,or_false] at hb ⊢;rcases hb with rfl | rfl | rfl | rfl <;> simp)
  have nx:∀b o,H b=some o->b∉[z,TO,i1,i2]:=λb o e hb=>by
   have:=(fx b hb).1;rw[this] at e;cases e
  refine I.step (g':=s.gens) (d':=s.drawn) (t':=s.toks) (ch:=[z,TO,i1,i2]) (λb hb=>?_) (λb o _ _ hb e _=>up b o hb e) (λb o _ _ hb e _=>⟨o.slots,up b o hb e⟩) (λb o hb e n=>n)
   (λb o hb e=>⟨o,up b o hb e⟩) (λb q e=>e) (λb o q e=>e) (λb q e=>⟨#[],by rw[e];simp⟩) (λm hm=>?_) (λb o e=>?_) I.bare
  ·obtain ⟨_,f1,_,f3,f4,f5⟩:=fx b hb;exact ⟨f3,f1,f4,f5⟩
  ·obtain ⟨o,es,ep,ho,r⟩:=hm;exact ⟨o,es,ep,up _ o (λz=>(fx _ z).2.1 rfl) ho,r⟩
  ·refine (I.hok b o e).stay (λc v' hc q=>up c v' ?_ q) (λc q=>q) λc xs q=>q
   rcases hc with rfl | hc
   ·exact nx _ _ e
   ·exact nx _ _ hc
 self:=λ_ _ _ _ _ st h=>wpAny_pyIter_zip st.1 h
section
variable {X:Cx}
def La (K:FG9) (ta:TA):TI:=λσ H R=>ta σ H λvs H1=>∃l1 l2,vs=[.ref l1,.ref l2]/\(∃xs,bL K H1 l1 xs)/\(∃ys,bL K H1 l2 ys)/\R (Lq K l1 l2) H1
theorem ow {a b:Expr} {ta:TA} {p pos tpos:Pos} {elts:List Expr} {kk:Nat} (hg:Gl X "zip") (hm:X.mg "zip"=none) (ha:PA X [a,b] ta) (hs:starEach [a,b] X.env=[(false,eval a X.env),(false,eval b X.env)]:=by rfl) (hs2:starEach [b] X.env=[(false,eval b X.env)]:=by rfl) :
  PI X (.Tuple elts kk tpos) (.Call (.Name "zip" p) [a,b] [] pos) (La X.K ta):=by
 intro pins s σ H R I h;refine Call_ (jv I hg hm boot_zip (PyProof.Rows.callWith_type1 (fB (ha pos pins s σ H _ I h) λus s1 ⟨vs,H1,I1,r1,q1⟩=>?_) (by rw[hs,hs2]) (by rw[hs2];rfl)));obtain ⟨l1,l2,e,⟨xs,qx⟩,⟨ys,qy⟩,q⟩:=q1;subst e;obtain ⟨u,v,rfl,ru,rv⟩:=vals2 r1;cases ru;cases rv;obtain ⟨us,rx,px,_⟩:=I1.list qx;obtain ⟨ws,ry,py,_⟩:=I1.list qy;refine call_zip_2 px.isList py.isList λh' a1 a2 a3 a4 a5 a6 hk=>wpAny_pyIter_zip a1 ?_
 have I2:Inv X pins σ H1 { s1 with heap:=h' }:=I1.kept (t':=s1.toks) hk;refine ⟨_,[s1.heap.objs.size+4,s1.heap.objs.size+2,s1.heap.objs.size+3,s1.heap.objs.size,s1.heap.objs.size+1],_,_,H1,rfl,I2,Fj (s1.heap.objs.size+4) (s1.heap.objs.size+2) (s1.heap.objs.size+3) s1.heap.objs.size (s1.heap.objs.size+1) l1 l2 (cC (gh _)) (cC (gh _)),⟨a1,a2,⟨_,_,a3⟩,a4,a5⟩,λb hb=>?_,q⟩
 have hb':s1.heap.objs.size<=b:=by
  simp only[aA,aP,or_false] at hb;rcases hb with rfl | rfl | rfl | rfl | rfl <;> first | exact Nat.le_add_right _ _ | exact av _
 exact I1.fpOk hb' (I1.hok.fresh hb')
theorem GO (hc:X.calm=true):mJ X (.builtin "all") (λxs H Q=>∃(p:Addr) (bs:List Bool),xs=[.ref p]/\bL X.K H p (bs.map V.bl)/\Q (.bl (bs.all id)) H):=by
 intro pins s σ H xs us Q I r h;obtain ⟨p,bs,rfl,hp,q⟩:=h;obtain ⟨u,rfl,ru⟩:=vals1 r;cases ru;obtain ⟨vs,rv,pl,hz⟩:=I.list hp
 have hb:PyProof.Rows.LSm.BoolsAre vs bs:=by
  clear q hp pl hz
  induction bs generalizing vs with
  | nil=>cases rv;exact .nil
  | cons b bs ih =>
   rw[dZ] at rv;cases rv with
   | cons r1 r2=>cases r1;exact .cons b (ih _ r2)
 have hlt:p < s.heap.objs.size:=by obtain ⟨_,e,_⟩:=pl.isList;exact Heap.lt_size e
 refine call_all_walk (wpAny_pyIter_list pl.isList ?_)
 refine ⟨s.heap.objs.size,[s.heap.objs.size,p],[s.heap.objs.size],vs.toArray.size,_,_,λi=>(bs[i]?).getD true,rfl,Walks.list (A:=X.A.in1) (I.ok.hd hc) _ p (cC hlt) vs.toArray,
  ⟨⟨_,Heap.get?_push_size _ rfl,rfl,rfl⟩,pl.isList.push _⟩,λi v s' Q' E' hP hQ=>?_,λh' tk hk=>?_⟩
 ·obtain ⟨b,e,rfl⟩:=hb.get i v (by simpa using hP);simp only[e,Fb] at hQ;exact wpAny_truthy_bool hQ
 ·have e:((List.range vs.toArray.size).all λi=>(bs[i]?).getD true)=bs.all id:=by
   rw[aT,hb.length];exact PyProof.Rows.LSm.range_all bs
  rw[e];exact ⟨.bl _,H,I.kept (t':=tk) (PyProof.Rows.LSm.kept_iter hk),rfl,q⟩
theorem A8 (hc:X.calm=true):mJ X (.builtin "sum") (λxs H Q=>∃(p:Addr) (ns:List Int),xs=[.ref p]/\bL X.K H p (ns.map V.int)/\Q (.int ns.sum) H):=by
 intro pins s σ H xs us Q I r h;obtain ⟨p,ns,rfl,hp,q⟩:=h;obtain ⟨u,rfl,ru⟩:=vals1 r;cases ru;obtain ⟨vs,rv,pl,_⟩:=I.list hp;have hi:IntsAre vs ns:=intsAre_of rv;obtain ⟨xs,hx⟩:=hi.allInts.items;have hl':s.heap.IsList p (intItems xs):=hx ▸ pl.isList;refine sum_intListG (I.ok.hd hc) hl' λh' tk t' hk=>?_
 have e1:ns=xs.toList.map (·.1):=by
  rw[<- nums_intItems,<- hx];exact (show numsOf vs.toArray.toList=ns from hi.numsOf).symm
 have e2:preSum (numAt xs) xs.size=ns.sum:=by
  rw[preSum_eq,aD (by simp),e1]
 rw[e2];exact ⟨.int _,H,I.kept (t':=tk) hk,⟨_,rfl⟩,q⟩
end
section
variable {K:FG9} {l1 l2:Addr} {xs ws:List V} {g:TG} {tf:TT} {te:TE} {Q:VK} {σ₀:St} {H:Hp}
theorem nX (Pv:Nat->List V->Hp->Prop) (hz:xs.length<=sizeLine) (hw:ws.length=xs.length) (h0:Pv 0 [] H) (hl:∀i ys H,i<=xs.length->Pv i ys H->bL K H l1 xs/\bL K H l2 ws)
  (hs:∀i x y ys H p,xs[i]?=some x->ws[i]?=some y->ys.length<=i->Pv i ys H->H p=none->mS σ₀ g tf te (.ref p) (upd H p (.tup [x,y])) (λy H'=>Pv (i+1) (ys++[y]) H') (λH'=>Pv (i+1) ys H'))
  (hd:∀ys H,ys.length<=xs.length->Pv xs.length ys H->∀p,H p=none->Q (.ref p) (upd H p (.lst ys))):oj (Lq K l1 l2) σ₀ g tf te Q H:=by
 refine ⟨λi m ys H=>m=xs.length - i/\i<=xs.length/\ys.length<=i/\Pv i ys H,⟨xs.length,by simp,bJ _,bJ _,h0⟩,?_⟩;rintro i m ys H ⟨rfl,hi,hy,p⟩;obtain ⟨q1,q2⟩:=hl i ys H hi p;by_cases hlt:i < xs.length
 ·refine .inr ⟨⟨xs,ws,xs[i],ws[i]'(by lia),q1,q2,by simp [hlt],by simp⟩,by lia,λy H'=>Pv (i+1) (ys++[y]) H',λH'=>Pv (i+1) ys H',λy H' p'=>⟨xs.length - (i+1),by lia,rfl,hlt,by rw[ax,de];lia,p'⟩,λH' p'=>⟨xs.length - (i+1),by lia,rfl,hlt,by lia,p'⟩,λx H' y=>?_⟩;obtain ⟨r,x',y',rfl,hr,rfl,e1,e2⟩:=y;exact hs i x' y' ys _ r (e1 xs q1) (e2 ws q2) hy p hr
 ·have e:i=xs.length:=by lia
  subst e;exact .inl ⟨⟨xs,ws,q1,q2,.inl (av _)⟩,by lia,hd ys H hy p⟩
theorem Jm {tb:TS} {D:Ends} (Pv:Nat->St->Hp->Prop) (hw:ws.length=xs.length) (h0:Pv 0 σ H) (hl:∀i σ H,i<=xs.length->Pv i σ H->bL K H l1 xs/\bL K H l2 ws)
  (hs:∀i x y σ H p,xs[i]?=some x->ws[i]?=some y->Pv i σ H->H p=none->g (.ref p) σ (upd H p (.tup [x,y])) λσ2 H2=>tb { D with nx:=Pv (i+1),ct:=Pv (i+1),bk:=D.nx } σ2 H2) (hd:∀σ H,Pv xs.length σ H->D.nx σ H) :
  ∃W:Nat->Nat->St->Hp->Prop,(∃m,W 0 m σ H)/\∀i m σ H,W i m σ H →
   ((Lq K l1 l2).stop i H/\D.nx σ H)\/((Lq K l1 l2).go i H/\∃N:St->Hp->Prop,(∀σ' H',N σ' H'->∃m',m' < m/\W (i+1) m' σ' H')/\∀x H',(Lq K l1 l2).yld i H x H'->g x σ H' λσ2 H2=>tb { D with nx:=N,ct:=N,bk:=D.nx } σ2 H2):=by
 refine ⟨λi m σ H=>m=xs.length - i/\i<=xs.length/\Pv i σ H,⟨xs.length,by simp,bJ _,h0⟩,?_⟩;rintro i m σ H ⟨rfl,hi,p⟩;obtain ⟨q1,q2⟩:=hl i σ H hi p;by_cases hlt:i < xs.length
 ·refine .inr ⟨⟨xs,ws,xs[i],ws[i]'(by lia),q1,q2,by simp [hlt],by simp⟩,Pv (i+1),λσ' H' p'=>⟨xs.length - (i+1),by lia,rfl,hlt,p'⟩,λx H' y=>?_⟩;obtain ⟨r,x',y',rfl,hr,rfl,e1,e2⟩:=y;exact hs i x' y' σ _ r (e1 xs q1) (e2 ws q2) p hr
 ·have e:i=xs.length:=by lia
  subst e;exact .inl ⟨⟨xs,ws,q1,q2,.inl (av _)⟩,hd σ H p⟩
end
section
variable {X:Cx}
theorem lW (K:FG9) (n:Nat) {es:List Expr} {k:Nat} {pos:Pos} {t:G7} (h:Mw X es t) (hK:X.K=K:=by rfl) (hc:X.calm=true:=by rfl)
  (hn:(assignEach es X.env).length=n:=by rfl) (hst:(assignEach es X.env).findIdx? (·.1)=none:=by rfl):PG X (.Tuple es k pos) (Le K n t):=by subst hK;exact rY hc h hn hst
theorem oB (K:FG9) (hK:X.K=K):MC X (KO K):=by subst hK;exact bC
theorem kZ (K:FG9) (hK:X.K=K):MC X (KP K):=by subst hK;exact bw
theorem FN (K:FG9) {tg l:Expr} {tl:TE} (hl:PE X l tl) (hK:X.K=K:=by rfl):PI X tg l (Gd K tl):=by subst hK;exact cw hl
end
theorem dI {X:Cx} {e e':Expr} {es:List Expr} {te:TE} {t:TA} (h:e=e') (ha:PE X e' te) (hr:PA X es t) (hs:∀l,starEach (e' :: l) X.env=(false,eval e' X.env) :: starEach l X.env:=by intro _;rfl):PA X (e :: es) (mT te t):=by subst h;exact ae ha hr (hs _)
section
variable {σ:St} {H:Hp} {D:Ends} {Q:VK}
theorem iT (hl:H l=some (.lst xs)) (hz:xs.length < sizeLine) (h:Q .non (upd H l (.lst (xs++[y])))):Di (.ref l) [y] H Q:=⟨l,xs,y,rfl,rfl,hl,hz,h⟩
theorem IB {K:FG9} (h:ta σ H λvs H1=>∃l1 l2,vs=[.ref l1,.ref l2]/\(∃xs,bL K H1 l1 xs)/\(∃ys,bL K H1 l2 ys)/\R (Lq K l1 l2) H1):La K ta σ H R:=h
theorem lV (h1:H l=some (.lst xs)) (h2:H b=some (.lst zs)) (hz:xs.length+zs.length<=sizeLine) (h:∀p H',aH H H'->H p=none->H' p=some (.lst (xs++zs))->Q (.ref p) H'):Mi (.ref l) (.ref b) H Q :=
 ⟨l,b,xs,zs,rfl,rfl,h1,h2,hz,λp hp=>h p _ (aH.new hp) hp aJ⟩
theorem Kt {K:FG9} {lo hi:Option Int} (h1:bL K H a xs) (h:∀p H',aH H H'->H p=none->H' p=some (.lst (qO xs lo hi))->Q (.ref p) H'):Mg K (.ref a) lo hi H Q :=
 ⟨a,xs,rfl,h1,λp hp=>h p _ (aH.new hp) hp aJ⟩
theorem iK {xs:List α} {i:Int} (h0:0<=i) (h1:i < xs.length):∃v,CA xs i=some v/\v∈xs/\xs[i.toNat]?=some v:=by
 have hj:i.toNat < xs.length:=by lia
 refine ⟨xs[i.toNat],?_,aK hj,by simp [hj]⟩;have:=fF (xs:=xs) (j:=i.toNat) (v:=xs[i.toNat]) (by simp [hj]);rwa [Int.toNat_of_nonneg h0] at this
end
theorem cP {α β:Type} {F:α->β->Prop}:∀{l1:List α} {l2:List β} {y:β},Paired F l1 l2->y∈l2->∃x∈l1,F x y
 | _,_,_,.nil,h=>nomatch h
 | _,_,_,.cons r t,h=>by
  rcases aA.mp h with rfl | h
  ·exact ⟨_,cu,r⟩
  ·obtain ⟨x,hx,q⟩:=cP t h;exact ⟨x,ba _ hx,q⟩
theorem ck {F:α->β->Prop} {l1:List α} {l2:List β} {i:Nat} {y:β} (h:Paired F l1 l2) (e:l2[i]?=some y):∃x,l1[i]?=some x/\F x y:=by
 have hl:=h.length;have hi:i < l2.length:=(aV.mp e).1;refine ⟨l1[i]'(by lia),by simp,?_⟩;have:=iW h (i:=i) (by lia) hi;have e2:l2[i]=y:=(aV.mp e).2;rwa [e2] at this
def Bo (n:Int×Int):Prop:=0 < n.2/\Int.gcd n.1 n.2=1/\Sz 8000 n.1/\Sz 8000 n.2
theorem take_snoc {α:Type} {l:List α} {v:α} (h:l[i]?=some v):l.take (i+1)=l.take i++[v]:=by rw[List.take_add_one,h];rfl
theorem aH.after (s:aH H H') (h:H r=Option.none):aH H (upd H' r o):=λb u e=>by rw[br (eE e h)];exact s b u e
theorem cG.after (s:cG b H H') (h:H r=Option.none):cG b H (upd H' r o):=⟨λc u e n=>by rw[br (eE e h)];exact s.1 c u e n,λq hi=>(s.2 q hi).upd λz=>by obtain ⟨_,_,_,e⟩:=hi;rw[<- z,h] at e;cases e⟩
theorem cG.same (s:cG b H H') (e:aH H' H''):cG b H H'':=s.trans e.upto
theorem uY {α:Type} {Pr:α->Prop} {l:List α} {a:α} (h:∀n∈l,Pr n) (ha:Pr a):∀n∈l++[a],Pr n:=λn hn=>by
 rcases az.mp hn with hn | hn
 ·exact h n hn
 ·have e:n=a:=by simpa using hn
  rw[e];exact ha
abbrev xh (h:Heap) (z TI TO:Addr) (f0 f1:Value):Prop:=h.get? z=some { cls:=.type "zip",dict:=none,data:=.fields #[f0,f1,.bool false,.ref TI,.ref TO],slots:=#[] }
section
variable {prog:Program} {w:World} {A:Around} {E:Value->Shared->Prop} {s:Shared}
theorem CB (e:s.heap.get? a=some o) (h:Q (some o) s):wpAny (model prog w) A (loadIfAlive a) Q E s:=by
 intro Γ p hp;show Sem.wp _ _ (.loadIfAlive a .pure) _ _ _ _
 simp only[Sem.wp_loadIfAlive,e];exact wpAny_pure h Γ p hp
theorem vU {z TI TO T:Addr} (zr:xh s.heap z TI TO (rawInt T) (.bool b1)) (al:s.heap.get? T=some o)
  (h:∀h',xh h' z TI TO (rawInt T) (.bool true)->Heap.SameBut z s.heap h'->Q false { s with heap:=h' }):wpAny (model prog w) A (Builtin.SmallTypes.ownedTupleIsFree (.ref z)) Q E s:=by
 unfold Builtin.SmallTypes.ownedTupleIsFree;refine wpAny_bind (wpAny_field zr rfl (x:=rawInt T) rfl ?_);refine wpAny_bind (CB (a:=T) al ?_);refine wpAny_bind (wpAny_field zr rfl (x:=.bool b1) rfl ?_);cases b1 with
 | true=>exact wpAny_pure (h _ zr (.refl ..))
 | false=>exact wpAny_bind (wpAny_setField_rec zr (by simp) λh' zr' sb=>wpAny_pure (h h' zr' sb))
theorem EM {z TI TO T i1 i2 l1 l2:Addr} {Q:Value->Shared->Prop} (D:ZipApart z TI TO i1 i2 l1 l2) (zr:xh s.heap z TI TO (rawInt T) (.bool b1)) (al:s.heap.get? T=some o)
  (pt:IsPair s.heap TI (.ref i1) (.ref i2)) (j1:s.heap.IsListIter i1 l1 k1) (j2:s.heap.IsListIter i2 l2 k2) (m1:s.heap.IsList l1 us) (m2:s.heap.IsList l2 ws) (eu:us[k1]?=some u) (ev:ws[k2]?=some v)
  (hQ:∀h',xh h' z TI TO (rawInt T) (.bool true)->h'.IsListIter i1 l1 (k1+1)->h'.IsListIter i2 l2 (k2+1)->IsPair h' s.heap.objs.size u v->(∀c o,c≠z->c≠i1->c≠i2->s.heap.get? c=some o->h'.get? c=some o)->Q (.ref s.heap.objs.size) { s with heap:=h' }) :
  wpAny (model prog w) A (Builtin.«zip.__next__» ⟨[.ref z],[]⟩) (λfin s'=>∃v,fin=.done (.ret v)/\Q v s') E s:=by
 change wpAny _ _ (field (Value.ref z) 2 >>= _) _ _ s
 refine wpAny_bind (wpAny_field zr rfl (x:=.bool false) rfl ?_)
 change wpAny _ _ (field (Value.ref z) 3 >>= _) _ _ s
 refine wpAny_bind (wpAny_field zr rfl (x:=.ref TI) rfl (wpAny_bind (wpAny_seqItems pt rfl ?_)))
 change wpAny _ _ (Builtin.SmallTypes.ownedTupleIsFree (Value.ref z) >>= _) _ _ s
 refine wpAny_bind (vU zr al λg1 zr1 sb1=>?_);simp only[gR,if_false];refine wpAny_bind ?_;rw[<- Array.forIn_toList];simp only[Hw,yL];have j1':=j1.extBut sb1.extBut D.i1z;have m1':=m1.extBut sb1.extBut D.l1z;refine wpAny_bind (wpAny_bind (wpAny_holding ?_))
 change wpAny _ _ (Builtin.SmallTypes.nextOf (Value.ref i1) >>= _) _ _ _
 refine wpAny_bind (wpAny_nextOf_list_item j1' m1' eu λg2 j1a sb2=>wpAny_pure ?_);refine wpAny_pure ?_;have j2':=(j2.extBut sb1.extBut D.i2z).extBut sb2.extBut D.i12.symm;have m2':=(m2.extBut sb1.extBut D.l2z).extBut sb2.extBut D.l2i1;refine wpAny_bind (wpAny_bind (wpAny_holding ?_))
 change wpAny _ _ (Builtin.SmallTypes.nextOf (Value.ref i2) >>= _) _ _ _
 refine wpAny_bind (wpAny_nextOf_list_item j2' m2' ev λg3 j2a sb3=>wpAny_pure ?_);refine wpAny_pure (wpAny_pure ?_);refine wpAny_bind (wpAny_newTuple (hsz:=ij rfl) ?_);have sz:g3.objs.size=s.heap.objs.size:=by rw[sb3.1,sb2.1,sb1.1]
 have up:∀c o,c≠z->c≠i1->c≠i2->s.heap.get? c=some o->g3.get? c=some o:=λc o c1 c2 c3 e=>sb3.extBut _ _ c3 (sb2.extBut _ _ c2 (sb1.extBut _ _ c1 e))
 have zr3:xh g3 z TI TO (rawInt T) (.bool true):=sb3.extBut _ _ D.i2z.symm (sb2.extBut _ _ D.i1z.symm zr1);refine wpAny_pure ⟨_,rfl,?_⟩
 change Q (.ref g3.objs.size) { s with heap:=g3.push { cls:=.type "tuple",data:=.seq #[u,v] } }
 have last:=hQ (g3.push { cls:=.type "tuple",data:=.seq #[u,v] }) (Heap.get?_push_of_some _ zr3) ((j1a.extBut sb3.extBut D.i12).at λo e=>Heap.get?_push_of_some _ e) (j2a.at λo e=>Heap.get?_push_of_some _ e)
  (by rw[<- sz];exact Heap.get?_push_size _ rfl) λc o c1 c2 c3 e=>Heap.get?_push_of_some _ (up c o c1 c2 c3 e)
 rw[sz];exact last
theorem F0 {z TI TO T i1 i2 l1 l2:Addr} (hh:A.handled=none) (D:ZipApart z TI TO i1 i2 l1 l2) (zr:xh s.heap z TI TO (rawInt T) (.bool b1)) (al:s.heap.get? T=some o)
  (pt:IsPair s.heap TI (.ref i1) (.ref i2)) (j1:s.heap.IsListIter i1 l1 k1) (m1:s.heap.IsList l1 us) (eu:us[k1]?=none)
  (hE:∀h' e,(∀c o,c≠z->c≠i1->c≠i2->s.heap.get? c=some o->h'.get? c=some o)->(∃o,h'.get? e=some o/\o.cls=.type "StopIteration")->E (.ref e) { s with heap:=h' }) :
  wpAny (model prog w) A (Builtin.«zip.__next__» ⟨[.ref z],[]⟩) Q E s:=by
 change wpAny _ _ (field (Value.ref z) 2 >>= _) _ _ s
 refine wpAny_bind (wpAny_field zr rfl (x:=.bool false) rfl ?_)
 change wpAny _ _ (field (Value.ref z) 3 >>= _) _ _ s
 refine wpAny_bind (wpAny_field zr rfl (x:=.ref TI) rfl (wpAny_bind (wpAny_seqItems pt rfl ?_)))
 change wpAny _ _ (Builtin.SmallTypes.ownedTupleIsFree (Value.ref z) >>= _) _ _ s
 refine wpAny_bind (vU zr al λg1 zr1 sb1=>?_);simp only[gR,if_false];refine wpAny_bind ?_;rw[<- Array.forIn_toList];simp only[Hw,yL];refine wpAny_bind (wpAny_bind (wpAny_holding ?_))
 change wpAny _ _ (Builtin.SmallTypes.nextOf (Value.ref i1) >>= _) _ _ _
 exact wpAny_bind (wpAny_nextOf_list_end hh (j1.extBut sb1.extBut D.i1z) (m1.extBut sb1.extBut D.l1z) eu λg2 e xb he=>hE g2 e (λc o c1 c2 _ q=>xb _ _ c2 (sb1.extBut _ _ c1 q)) he)
theorem EI {z TI TO T i1 i2 l1 l2:Addr} (D:ZipApart z TI TO i1 i2 l1 l2) (zr:xh s.heap z TI TO (rawInt T) (.bool b1)) (al:s.heap.get? T=some o)
  (pt:IsPair s.heap TI (.ref i1) (.ref i2)) (j1:s.heap.IsListIter i1 l1 k1) (j2:s.heap.IsListIter i2 l2 k2) (m1:s.heap.IsList l1 us) (m2:s.heap.IsList l2 ws) (eu:us[k1]?=some u) (ev:ws[k2]?=some v)
  (hQ:∀h',xh h' z TI TO (rawInt T) (.bool true)->h'.IsListIter i1 l1 (k1+1)->h'.IsListIter i2 l2 (k2+1)->IsPair h' s.heap.objs.size u v->(∀c o,c≠z->c≠i1->c≠i2->s.heap.get? c=some o->h'.get? c=some o)->Q (some (.ref s.heap.objs.size)) { s with heap:=h' }) :
  wpAny (model prog w) A (pyNext (.ref z)) Q E s:=by
 have ty:s.TypeIs (.ref z) "zip":=⟨_,zr,rfl⟩;unfold pyNext;refine wpAny_bind (wpAny_attempt (wpAny_callSpecial?_slot (name:=Str.ofString "__next__") ty lC (wpAny_call_entry lC ty PySem.F.entry_zip_next ?_ (MF _))));exact EM D zr al pt j1 j2 m1 m2 eu ev λh' a1 a2 a3 a4 a5=>wpAny_pure (hQ h' a1 a2 a3 a4 a5)
theorem EH {z TI TO T i1 i2 l1 l2:Addr} (hh:A.handled=none) (D:ZipApart z TI TO i1 i2 l1 l2) (zr:xh s.heap z TI TO (rawInt T) (.bool b1)) (al:s.heap.get? T=some o)
  (pt:IsPair s.heap TI (.ref i1) (.ref i2)) (j1:s.heap.IsListIter i1 l1 k1) (m1:s.heap.IsList l1 us) (eu:us[k1]?=none)
  (hQ:∀h',(∀c o,c≠z->c≠i1->c≠i2->s.heap.get? c=some o->h'.get? c=some o)->Q none { s with heap:=h' }):wpAny (model prog w) A (pyNext (.ref z)) Q E s:=by
 have ty:s.TypeIs (.ref z) "zip":=⟨_,zr,rfl⟩;unfold pyNext;refine wpAny_bind (wpAny_attempt (wpAny_callSpecial?_slot (name:=Str.ofString "__next__") ty lC (wpAny_call_entry lC ty PySem.F.entry_zip_next ?_ (MF _))));refine F0 hh D zr al pt j1 m1 eu λh' e kk ⟨oe,he,hc⟩=>?_
 exact wpAny_bind (wpAny_isInstance (T:="StopIteration") (b:=true) ⟨oe,he,hc⟩ isSubtype_stop (wpAny_pure (hQ _ kk)))
end
section
variable {X:Cx} {pins:List (Addr×Obj)} {σ:St} {H:Hp} {s:Shared}
theorem Inv.moved {ch:List Addr} (I:Inv X pins σ H s) (fx:∀b∈ch,ja X pins H b) (up:∀b o,b∉ch->s.heap.get? b=some o->h'.get? b=some o) (hg:AllBare g') :
  Inv X pins σ H { s with heap:=h',gens:=g',drawn:=d',toks:=t' }:=by
 have nx:∀b o,H b=some o->b∉ch:=λb o e hb=>by have:=(fx b hb).1;rw[this] at e;cases e
 refine I.step (ch:=ch) (λb hb=>?_) (λb o _ _ hb e _=>up b o hb e) (λb o _ _ hb e _=>⟨o.slots,up b o hb e⟩) (λb o hb e n=>n) (λb o hb e=>⟨o,up b o hb e⟩) (λb q e=>e) (λb o q e=>e) (λb q e=>⟨#[],by rw[e];simp⟩) (λm hm=>?_) (λb o e=>?_) hg
 ·obtain ⟨_,f1,_,f3,f4,f5⟩:=fx b hb;exact ⟨f3,f1,f4,f5⟩
 ·obtain ⟨o,es,ep,ho,r⟩:=hm;exact ⟨o,es,ep,up _ o (λz=>(fx _ z).2.1 rfl) ho,r⟩
 ·refine (I.hok b o e).stay (λc v' hc q=>up c v' ?_ q) (λc q=>q) λc xs q=>q
  rcases hc with rfl | hc
  ·exact nx _ _ e
  ·exact nx _ _ hc
theorem Inv.track (I:Inv X pins σ H s) (fp:ja X pins H p) (new:ia X.prog X.w (upd H p o) s.heap p o):Inv X pins σ (upd H p o) s:=by
 have nt:∀{b:Addr} {u:HO},H b=some u->b≠p:=λe z=>by rw[z,fp.1] at e;cases e
 refine I.step (h':=s.heap) (g':=s.gens) (d':=s.drawn) (t':=s.toks) (ch:=[p]) (λb hb=>?_) (λb o _ _ _ e _=>e) (λb o _ _ _ e _=>⟨o.slots,e⟩) (λb o hb e n=>?_) (λb o _ e=>⟨o,e⟩) (λb q e=>by rw[br (nt e)];exact e) (λb o q e=>by rw[br (nt e)];exact e)
  (λb q e=>⟨#[],by rw[br (nt e),e];simp⟩) (λm hm=>hm) (λb u e=>?_) I.bare
 ·have e:b=p:=by simpa using hb
  subst e;obtain ⟨_,f1,_,f3,f4,f5⟩:=fp;exact ⟨f3,f1,f4,f5⟩
 ·rw[br λz=>hb (by simp [z])];exact n
 ·by_cases hb:b=p
  ·subst hb;rw[aJ] at e;cases e;exact new
  ·rw[br hb] at e;exact (I.hok b u e).stay (λc v _ q=>q) (λc q=>by rw[br (nt q)];exact q) λc xs q=>by rw[br (nt q)];exact q
end
def J5 (H:Hp) (p:V×V) (x:V):Prop:=∃T,x=.ref T/\H T=some (.tup [p.1,p.2])
theorem J5.same (h:J5 H p x) (e:aH H H'):J5 H' p x:=by obtain ⟨T,q,g⟩:=h;exact ⟨T,q,e _ _ g⟩
def Zst (h:Heap) (z TI TO:Addr) (base:Nat):Prop:=(∃a b,IsPair h TO a b)/\(IsZip h z TI TO .none\/∃(T:Addr) (b1:Bool) (o:Obj),xh h z TI TO (rawInt T) (.bool b1)/\h.get? T=some o/\@LE.le Nat instLENat base T)
theorem yO {z TI TO i1 i2 l1 l2:Addr} (hz:xh h z TI TO f0 f1) (hTI:IsPair h TI (.ref i1) (.ref i2)) (hTO:IsPair h TO a b) (h1:h.IsListIter i1 l1 k1) (h2:h.IsListIter i2 l2 k2) (hl1:h.IsList l1 xs) (hl2:h.IsList l2 ys) (hT:TI≠TO) (hi:i1≠i2):ZipApart z TI TO i1 i2 l1 l2:=by
 obtain ⟨o1,g1,c1,_⟩:=h1;obtain ⟨o2,g2,c2,_⟩:=h2;obtain ⟨p1,q1,d1,_⟩:=hl1;obtain ⟨p2,q2,d2,_⟩:=hl2;have zt:Value.type "zip"≠.type "tuple":=jL (by decide);have it:Value.type "list_iterator"≠.type "tuple":=jL (by decide);have iz:Value.type "list_iterator"≠.type "zip":=jL (by decide);have lz:Value.type "list"≠.type "zip":=jL (by decide);have lt:Value.type "list"≠.type "tuple":=jL (by decide);have li:Value.type "list"≠.type "list_iterator":=jL (by decide)
 exact ⟨cR hTI hz zt.symm,cR hTO hz zt.symm,cR g1 hz (by rw[c1];exact iz),cR g2 hz (by rw[c2];exact iz),hT,cR hTI g1 (by rw[c1];exact it.symm),cR hTI g2 (by rw[c2];exact it.symm),cR hTO g1 (by rw[c1];exact it.symm),cR hTO g2 (by rw[c2];exact it.symm),hi,
  cR q1 hz (by rw[d1];exact lz),cR q1 hTO (by rw[d1];exact lt),cR q1 g1 (by rw[d1,c1];exact li),cR q1 g2 (by rw[d1,c2];exact li),cR q2 hz (by rw[d2];exact lz),cR q2 hTO (by rw[d2];exact lt),cR q2 g1 (by rw[d2,c1];exact li),cR q2 g2 (by rw[d2,c2];exact li)⟩
section
variable {X:Cx} {pins:List (Addr×Obj)} {σ:St}
theorem ja.heap (f:ja X pins H b) (e:H' b=none):ja X pins H' b:=⟨e,f.2⟩
structure zU where
 z:Addr
 TI:Addr
 TO:Addr
 i1:Addr
 i2:Addr
 S:Addr
 base:Nat
def zU.all (a:zU):List Addr:=[a.z,a.TI,a.TO,a.i1,a.i2,a.S]
structure zU.Ok (a:zU):Prop where
 tt:a.TI≠a.TO
 ii:a.i1≠a.i2
 Sz:a.S≠a.z
 STI:a.S≠a.TI
 STO:a.S≠a.TO
 Si1:a.S≠a.i1
 Si2:a.S≠a.i2
 lt:∀b∈a.all,@LT.lt Nat instLTNat b a.base
structure Jz (X:Cx) (pins:List (Addr×Obj)) (σ:St) (H1:Hp) (a:zU) (l1 l2:Addr) (i:Nat) (H:Hp) (s:Shared):Prop where
 inv:Inv X pins σ H s
 same:aH H1 H
 fps:∀b∈a.all,ja X pins H b
 sz:a.base<=s.heap.objs.size
 zst:Zst s.heap a.z a.TI a.TO a.base
 pt:IsPair s.heap a.TI (.ref a.i1) (.ref a.i2)
 j1:s.heap.IsListIter a.i1 l1 i
 j2:s.heap.IsListIter a.i2 l2 i
variable {a:zU} {l1 l2:Addr} {H1 H:Hp} {s:Shared} {i:Nat} {xs ys:List V}
theorem Jz.push (L:Jz X pins σ H1 a l1 l2 i H s) (O:a.Ok) (k:∀b o,b≠a.S->s.heap.get? b=some o->h'.get? b=some o) (hz:h'.objs.size=s.heap.objs.size):Jz X pins σ H1 a l1 l2 i H { s with heap:=h' }:=by
 refine ⟨L.inv.moved (g':=s.gens) (d':=s.drawn) (t':=s.toks) (ch:=[a.S]) (λb hb=>?_) (λb o hb e=>k b o (λz=>hb (by simp [z])) e) L.inv.bare,L.same,L.fps,by show a.base<=h'.objs.size;rw[hz];exact L.sz,?_,k _ _ O.STI.symm L.pt,L.j1.at λo e=>k _ o O.Si1.symm e,L.j2.at λo e=>k _ o O.Si2.symm e⟩
 ·have e:b=a.S:=by simpa using hb
  rw[e];exact L.fps _ (by simp [zU.all])
 ·obtain ⟨⟨c,d,z0⟩,z4⟩:=L.zst;refine ⟨⟨c,d,k _ _ O.STO.symm z0⟩,?_⟩;rcases z4 with z1 | ⟨T,b1,o,z1,z2,z3⟩
  ·exact .inl (k _ _ O.Sz.symm z1)
  ·refine .inr ⟨T,b1,o,k _ _ O.Sz.symm z1,k _ _ (λe=>?_) z2,z3⟩;have:=O.lt a.S (by simp [zU.all]);rw[<- e] at this;exact absurd this (Nat.not_lt.mpr z3)
theorem Ff (O:a.Ok) (q1:bL X.K H1 l1 xs) (q2:bL X.K H1 l2 ys) (ex:xs[i]?=some x) (ey:ys[i]?=some y) (L:Jz X pins σ H1 a l1 l2 i H s)
  (hQ:∀s',Jz X pins σ H1 a l1 l2 (i+1) (upd H s.heap.objs.size (.tup [x,y])) s'->(∀c o,c∉[a.z,a.TO,a.i1,a.i2]->s.heap.get? c=some o->s'.heap.get? c=some o)->H s.heap.objs.size=none->Q (some (.ref s.heap.objs.size)) s'):wpAny (model X.prog X.w) A' (pyNext (.ref a.z)) Q E s:=by
 obtain ⟨I,sm,fps,sz,zst,pt,j1,j2⟩:=id L;obtain ⟨us,ru,pu,_⟩:=I.list (sm.seq q1);obtain ⟨ws,rw',pw,_⟩:=I.list (sm.seq q2);obtain ⟨u,eu,r1⟩:=ru.get ex;obtain ⟨v,ev,r2⟩:=rw'.get ey;have fx:∀b∈[a.z,a.TO,a.i1,a.i2],ja X pins H b:=λb hb=>fps b (by simp only[zU.all,aA,aP,or_false] at hb ⊢;rcases hb with e | e | e | e <;> simp [e])
 have hT0:H s.heap.objs.size=none:=I.hok.fresh (av _);have fT:ja X pins H s.heap.objs.size:=I.fpOk (av _) hT0;have lt:∀b∈a.all,b≠s.heap.objs.size:=λb hb e=>by have:=O.lt b hb;rw[e] at this;exact absurd this (Nat.not_lt.mpr sz)
 have fin:∀h',(∀c o,c∉[a.z,a.TO,a.i1,a.i2]->s.heap.get? c=some o->h'.get? c=some o)->IsPair h' s.heap.objs.size u v->IsPair h' a.TI (.ref a.i1) (.ref a.i2)->h'.IsListIter a.i1 l1 (i+1)->h'.IsListIter a.i2 l2 (i+1)->Zst h' a.z a.TI a.TO a.base →
   Q (some (.ref s.heap.objs.size)) { s with heap:=h' }:=λh' up pr pt' j1' j2' zst'=>by
  have I2:Inv X pins σ H { s with heap:=h' }:=I.moved (g':=s.gens) (d':=s.drawn) (t':=s.toks) fx up I.bare;have I3:Inv X pins σ (upd H s.heap.objs.size (.tup [x,y])) { s with heap:=h' }:=I2.track fT ⟨ij rfl,[u,v],.cons r1 (.cons r2 .nil),⟨_,pr,rfl,_,rfl⟩⟩;refine hQ _ ⟨I3,sm.trans (aH.new hT0),λb hb=>(fps b hb).heap (by rw[br (lt b hb)];exact (fps b hb).1),?_,zst',pt',j1',j2'⟩ up hT0;exact ai sz (bf (Heap.lt_size pr))
 obtain ⟨⟨c,d,z0⟩,z4⟩:=zst;rcases z4 with z1 | ⟨T,b1,o,z1,z2,z3⟩
 ·have D:=yO z1 pt z0 j1 j2 pu.isList pw.isList O.tt O.ii;refine wpAny_pyNext_zip_item D z1 pt z0 j1 j2 pu.isList pw.isList (x:=u) (y:=v) (by simpa using eu) (by simpa using ev) λh' a1 a2 a3 a4 a5 a6 hk=>?_
  have up:∀c o,c∉[a.z,a.TO,a.i1,a.i2]->s.heap.get? c=some o->h'.get? c=some o:=λc o hc e=>by
   simp only[aA,aP,or_false,not_or] at hc;exact hk c o hc.1 hc.2.1 hc.2.2.1 hc.2.2.2 e
  exact fin h' up a5 (hk _ _ D.TIz D.TITO D.TIi1 D.TIi2 pt) a3 a4 ⟨⟨_,_,a2⟩,.inr ⟨s.heap.objs.size,false,_,a1,a5,sz⟩⟩
 ·have D:=yO z1 pt z0 j1 j2 pu.isList pw.isList O.tt O.ii;refine EI D z1 z2 pt j1 j2 pu.isList pw.isList (u:=u) (v:=v) (by simpa using eu) (by simpa using ev) λh' a1 a3 a4 a5 hk=>?_
  have up:∀c o,c∉[a.z,a.TO,a.i1,a.i2]->s.heap.get? c=some o->h'.get? c=some o:=λc o hc e=>by
   simp only[aA,aP,or_false,not_or] at hc;exact hk c o hc.1 hc.2.2.1 hc.2.2.2 e
  have Tn:∀b∈a.all,T≠b:=λb hb e=>by have:=O.lt b hb;rw[<- e] at this;exact absurd this (Nat.not_lt.mpr z3)
  exact fin h' up a5 (hk _ _ D.TIz D.TIi1 D.TIi2 pt) a3 a4 ⟨⟨_,_,hk _ _ D.TOz D.TOi1 D.TOi2 z0⟩,.inr ⟨T,true,o,a1,hk _ _ (Tn _ (by simp [zU.all])) (Tn _ (by simp [zU.all])) (Tn _ (by simp [zU.all])) z2,z3⟩⟩
theorem Fe (hh:A'.handled=none) (O:a.Ok) (q1:bL X.K H1 l1 xs) (q2:bL X.K H1 l2 ys) (hi:xs.length<=i) (L:Jz X pins σ H1 a l1 l2 i H s)
  (hQ:∀s',Inv X pins σ H s'->(∀c o,c∉[a.z,a.TO,a.i1,a.i2]->s.heap.get? c=some o->s'.heap.get? c=some o)->Q none s'):wpAny (model X.prog X.w) A' (pyNext (.ref a.z)) Q E s:=by
 obtain ⟨I,sm,fps,sz,zst,pt,j1,j2⟩:=id L;obtain ⟨us,ru,pu,_⟩:=I.list (sm.seq q1);obtain ⟨ws,rw',pw,_⟩:=I.list (sm.seq q2);have lx:=ru.length;have none1:us.toArray[i]?=none:=by simp;lia
 have fx:∀b∈[a.z,a.TO,a.i1,a.i2],ja X pins H b:=λb hb=>fps b (by simp only[zU.all,aA,aP,or_false] at hb ⊢;rcases hb with e | e | e | e <;> simp [e])
 have fin:∀h',(∀c o,c∉[a.z,a.TO,a.i1,a.i2]->s.heap.get? c=some o->h'.get? c=some o)->Q none { s with heap:=h' }:=λh' up=>hQ _ (I.moved (g':=s.gens) (d':=s.drawn) (t':=s.toks) fx up I.bare) up
 obtain ⟨⟨c,d,z0⟩,z4⟩:=zst;rcases z4 with z1 | ⟨T,b1,o,z1,z2,z3⟩
 ·have D:=yO z1 pt z0 j1 j2 pu.isList pw.isList O.tt O.ii;refine wpAny_pyNext_zip_end hh D z1 pt z0 j1 j2 pu.isList pw.isList (.inl none1) λh' hk=>fin h' λc o hc e=>?_
  simp only[aA,aP,or_false,not_or] at hc;exact hk c o hc.1 hc.2.1 hc.2.2.1 hc.2.2.2 e
 ·have D:=yO z1 pt z0 j1 j2 pu.isList pw.isList O.tt O.ii;refine EH hh D z1 z2 pt j1 pu.isList none1 λh' hk=>fin h' λc o hc e=>?_
  simp only[aA,aP,or_false,not_or] at hc;exact hk c o hc.1 hc.2.2.1 hc.2.2.2 e
theorem Fi (hh:A'.handled=none) (O:a.Ok) (hz:xs.length<=sizeLine) (hl:ys.length=xs.length) (q1:bL X.K H1 l1 xs) (q2:bL X.K H1 l2 ys)
  (fin:∀s' H' ts acc c,Inv X pins σ H' s'->aH H1 H'->ja X pins H' a.S->s'.heap.get? a.S=some (lobj acc c)->cI ts acc->Paired (J5 H') (xs.zip ys) ts->R (.ok (.ret .none)) s') :
  ∀(k i:Nat) (s:Shared) (H:Hp) (ts:List V) (acc:List Value) (c:Nat),xs.length - i=k->i<=xs.length->Jz X pins σ H1 a l1 l2 i H s->s.heap.get? a.S=some (lobj acc c)->cI ts acc->Paired (J5 H) ((xs.zip ys).take i) ts →
   codeAny (model X.prog X.w) A' (.builtin "list.extend.loop" ⟨[.ref a.S,.ref a.z,.none],[]⟩) R s:=by
 have Sn:a.S∉[a.z,a.TO,a.i1,a.i2]:=λh=>by
  simp only[aA,aP,or_false] at h;rcases h with e | e | e | e
  ·exact O.Sz e
  ·exact O.STO e
  ·exact O.Si1 e
  ·exact O.Si2 e
 intro k
 induction k with
 | zero =>
  intro i s H ts acc c hk hi L gS rv prs;have e:i=xs.length:=by lia
  refine codeAny_builtin Lu ?_;rw[Around.under_plainId jo _]
  change wpAny _ A'.in1 (pyNext (Value.ref a.z) >>= _) _ _ s
  refine wpAny_bind (Fe hh O q1 q2 (by lia) L λs' I' up=>wpAny_pure (fin s' H ts acc c I' L.same (L.fps _ (by simp [zU.all])) (up _ _ Sn gS) rv ?_));rwa [aD (by rw[mP];lia)] at prs
 | succ k ih =>
  intro i s H ts acc c hk hi L gS rv prs;have hlt:i < xs.length:=by lia
  have lt:=prs.length;have la:=rv.length;refine codeAny_builtin Lu ?_;rw[Around.under_plainId jo _]
  change wpAny _ A'.in1 (pyNext (Value.ref a.z) >>= _) _ _ s
  refine wpAny_bind (Ff O q1 q2 (x:=xs[i]) (y:=ys[i]'(by lia)) (by simp [hlt]) (by simp) L λs' L' up hT=>?_);have gS':=up _ _ Sn gS
  change wpAny _ A'.in1 (updateSeq a.S (·.push (Value.ref s.heap.objs.size)) >>= _) _ _ s'
  have small:acc.length<=sizeLine:=by
   rw[bX,mP] at lt
   lia
  refine wpAny_bind (wpAny_updateSeq gS' rfl (wpAny_pure ⟨plainId_quiet jo _,?_⟩) (by rw[aT];exact small) (by
   show (acc.toArray.push (Value.ref s.heap.objs.size)).size<=sizeLine+1
   rw[Array.size_push,aT]
   lia))
  have gS2:=jg gS' (λb=>b.push (Value.ref s.heap.objs.size));have e2:(acc.toArray.push (Value.ref s.heap.objs.size))=(acc++[Value.ref s.heap.objs.size]).toArray:=by simp
  rw[e2] at gS2;refine ih (i+1) _ (upd H s.heap.objs.size (.tup [xs[i],ys[i]'(by lia)])) (ts++[.ref s.heap.objs.size]) (acc++[.ref s.heap.objs.size]) _ (by lia) hlt (L'.push O (λb o hb e=>(Heap.get?_update_other _ _ (Ne.symm hb)).trans e) (Heap.size_update ..)) gS2 (rv.append (show cI [V.ref s.heap.objs.size] [Value.ref s.heap.objs.size] from .cons rfl .nil)) ?_;have zp:(xs.zip ys)[i]?=some (xs[i],ys[i]'(by lia)):=by simp [Lv,hlt]
  rw[take_snoc zp];exact (Paired.imp' (λ_ _ z=>z.same (aH.new hT)) prs).snoc ⟨_,rfl,aJ⟩
theorem BE:typeLookup (.type "zip") "__len__"=pure Option.none:=by rw[typeLookup_type,builtinLookup_eq_fast];kernel_rfl
theorem Aa:typeLookup (.type "zip") "__length_hint__"=pure Option.none:=by rw[typeLookup_type,builtinLookup_eq_fast];kernel_rfl
theorem Fg (hh:A'.handled=none) (O:a.Ok) (hz:xs.length<=sizeLine) (hl:ys.length=xs.length) (q1:bL X.K H1 l1 xs) (q2:bL X.K H1 l2 ys) (L:Jz X pins σ H1 a l1 l2 0 H s) (gS:s.heap.get? a.S=some (lobj [] 0)) (z0:IsZip s.heap a.z a.TI a.TO .none)
  (fin:∀s' H' ts acc c,Inv X pins σ H' s'->aH H1 H'->ja X pins H' a.S->s'.heap.get? a.S=some (lobj acc c)->cI ts acc->Paired (J5 H') (xs.zip ys) ts->R (.ok (.ret .none)) s') :
  wpAny (model X.prog X.w) A'.in1 (Builtin.«list.__init__» ⟨[.ref a.S,.ref a.z],[]⟩) (λfl s'=>match fl with | .done f=>R (.ok f) s' | .again c'=>c'.quiet=true/\codeAny (model X.prog X.w) A' c' R s') (λe s'=>R (.error e) s') s:=by
 change wpAny _ A'.in1 (do let old <- Builtin.List.listItems (Value.ref a.S);Builtin.List.listUpdate (Value.ref a.S) (λ_=>#[]);letGo old.toList.reverse;Builtin.List.listExtendWith (Value.ref a.S) (Value.ref a.z) Value.none) _ _ s
 refine wpAny_bind ?_;unfold Builtin.List.listItems;refine wpAny_bind (wpAny_seqItems gS rfl (wpAny_pure ?_))
 change wpAny _ A'.in1 (updateSeq a.S (λ_=>#[]) >>= λ_=>letGo (#[]:Array Value).toList.reverse >>= λ_=>Builtin.List.listExtendWith (Value.ref a.S) (Value.ref a.z) Value.none) _ _ s
 refine wpAny_bind (wpAny_updateSeq gS rfl ?_);have g1:=jg gS (λ_=>(#[]:Array Value));obtain ⟨n1,g1⟩:∃n1,(s.heap.update a.S (Obj.mapSeq λ_=>(#[]:Array Value))).get? a.S=some (lobj [] n1):=⟨_,g1⟩;have L1:=L.push (h':=s.heap.update a.S (Obj.mapSeq λ_=>(#[]:Array Value))) O (λb o hb e=>(Heap.get?_update_other _ _ (Ne.symm hb)).trans e) (Heap.size_update ..);have z1:IsZip (s.heap.update a.S (Obj.mapSeq λ_=>(#[]:Array Value))) a.z a.TI a.TO .none:=(Heap.get?_update_other _ _ O.Sz).trans z0;refine wpAny_bind (wpAny_letGo ?_);unfold Builtin.List.listExtendWith;have ty:Shared.TypeIs { s with heap:=s.heap.update a.S (Obj.mapSeq λ_=>(#[]:Array Value)) } (.ref a.z) "zip":=⟨_,z1,rfl⟩;refine wpAny_bind (wpAny_typeOf ty ?_);have h1:Builtin.List.listSameRef (.ref a.S) (.ref a.z)=false:=by simp [Builtin.List.listSameRef,O.Sz]
 have h2:(Value.type "zip" == Value.type "list")=false:=by decide
 have h3:(Value.type "zip" == Value.type "tuple")=false:=by decide
 simp only[h1,h2,h3,Bool.or_false,gR,if_false];refine wpAny_bind (wpAny_pyIter_zip z1 (wpAny_bind (wpAny_holding ?_)));unfold Builtin.List.listLengthHint;refine wpAny_bind (wpAny_specialOf ty BE ?_)
 change wpAny _ A'.in1 (specialOf (Value.ref a.z) (Str.ofString "__length_hint__") >>= _) _ _ _
 refine wpAny_bind (wpAny_specialOf ty Aa (wpAny_pure ?_))
 change wpAny _ A'.in1 (rule "list.extend.makes-room" >>= λ_=>Builtin.List.listTouch (Value.ref a.S) >>= λ_=>again (.builtin "list.extend.loop" ⟨[Value.ref a.S,Value.ref a.z,Value.none],[]⟩)) _ _ _
 refine wpAny_bind (wpAny_rule (wpAny_bind ?_))
 change wpAny _ A'.in1 (updateSeq a.S (·.push Value.none) >>= λ_=>updateSeq a.S (·.pop)) _ _ _
 refine wpAny_bind (wpAny_updateSeq g1 rfl ?_);have g2:=jg g1 (λb=>b.push Value.none);obtain ⟨n2,g2⟩:∃n2,((s.heap.update a.S (Obj.mapSeq λ_=>(#[]:Array Value))).update a.S (Obj.mapSeq λb=>b.push Value.none)).get? a.S=some (lobj [Value.none] n2):=⟨_,g2⟩;have L2:=L1.push (h':=(s.heap.update a.S (Obj.mapSeq λ_=>(#[]:Array Value))).update a.S (Obj.mapSeq λb=>b.push Value.none)) O (λb o hb e=>(Heap.get?_update_other _ _ (Ne.symm hb)).trans e) (Heap.size_update ..);refine wpAny_updateSeq g2 rfl ?_ (ij rfl);have g3:=jg g2 (λb=>b.pop);have L3:=L2.push (h':=((s.heap.update a.S (Obj.mapSeq λ_=>(#[]:Array Value))).update a.S (Obj.mapSeq λb=>b.push Value.none)).update a.S (Obj.mapSeq λb=>b.pop)) O (λb o hb e=>(Heap.get?_update_other _ _ (Ne.symm hb)).trans e) (Heap.size_update ..);exact wpAny_pure ⟨plainId_quiet jo _,Fi hh O hz hl q1 q2 fin _ 0 _ H [] [] _ rfl (bJ _) L3 g3 .nil .nil⟩
end
section
variable {X:Cx}
theorem Kb (n:Nat):zU.Ok ⟨n+4,n+2,n+3,n,n+1,n+5,n+5+1⟩:=by
 have ne:∀p q:Nat,p≠q->@Ne Addr p q:=λ_ _ h=>h
 refine ⟨ne (n+2) (n+3) (by lia),ne n (n+1) (by lia),ne (n+5) (n+4) (by lia),ne (n+5) (n+2) (by lia),ne (n+5) (n+3) (by lia),ne (n+5) n (by lia),ne (n+5) (n+1) (by lia),λb hb=>?_⟩;have hb':b∈[n+4,n+2,n+3,n,n+1,n+5]:=hb;show @LT.lt Nat instLTNat b (n+5+1)
 simp only[aA,aP,or_false] at hb';rcases hb' with e | e | e | e | e | e <;> (rw[e];exact bc (gh _) (by lia))
def Ac (K:FG9) (ta:TA):TE:=λσ H Q=>ta σ H λvs H1=>∃(l1 l2:Addr) (xs ys:List V),vs=[.ref l1,.ref l2]/\bL K H1 l1 xs/\bL K H1 l2 ys/\ys.length=xs.length /\
 ∀L ts H',aH H1 H'->H1 L=none->H' L=some (.lst ts)->Paired (J5 H') (xs.zip ys) ts->Q (.ref L) H'
theorem vS {e1 e2:Expr} {ta:TA} {p p2 pos pos2:Pos} (hg:Gl X "list") (hm:X.mg "list"=none) (hg2:Gl X "zip") (hm2:X.mg "zip"=none) (ha:PA X [e1,e2] ta) (hc:X.calm=true:=by rfl)
  (hs:starEach [e1,e2] X.env=[(false,eval e1 X.env),(false,eval e2 X.env)]:=by rfl) (hs2:starEach [e2] X.env=[(false,eval e2 X.env)]:=by rfl)
  (hs3:starEach [Expr.Call (.Name "zip" p2) [e1,e2] [] pos2] X.env=[(false,eval (.Call (.Name "zip" p2) [e1,e2] [] pos2) X.env)]:=by rfl) :
  PE X (.Call (.Name "list" p) [.Call (.Name "zip" p2) [e1,e2] [] pos2] [] pos) (Ac X.K ta):=by
 intro pins s σ H Q I h;refine wpAny_Call_Name_kw (jv I hg hm boot_list ?_);refine PyProof.Rows.callWith_type1 ?_ (by rw[hs3];rfl) rfl;rw[hs3];show wpAny _ _ (spliced ((false,eval (.Call (.Name "zip" p2) [e1,e2] [] pos2) X.env) :: [])) _ _ s
 refine Calls.spliced_cons ?_;refine Call_ (jv I hg2 hm2 boot_zip (PyProof.Rows.callWith_type1 (fB (ha pos2 pins s σ H _ I h) λus s1 ⟨vs,H1,I1,r1,q1⟩=>?_) (by rw[hs,hs2]) (by rw[hs2];rfl)));obtain ⟨l1,l2,xs,ys,e,qx,qy,hl,q⟩:=q1;subst e;obtain ⟨u,v,rfl,ru,rv⟩:=vals2 r1;cases ru;cases rv;obtain ⟨us,rx,px,hz⟩:=I1.list qx;obtain ⟨ws,ry,py,_⟩:=I1.list qy;refine call_zip_2 px.isList py.isList λh' a1 a2 a3 a4 a5 a6 hk=>?_
 refine Calls.spliced_nil ?_;have I2:Inv X pins σ H1 { s1 with heap:=h' }:=I1.kept (t':=s1.toks) hk;have up:∀b o,h'.get? b=some o->(h'.push { cls:=.type "list",data:=.seq #[] }).get? b=some o:=λb o e=>Heap.get?_push_of_some _ e
 have O:zU.Ok ⟨s1.heap.objs.size+4,s1.heap.objs.size+2,s1.heap.objs.size+3,s1.heap.objs.size,s1.heap.objs.size+1,h'.objs.size,h'.objs.size+1⟩:=by
  rw[a6];exact Kb s1.heap.objs.size
 have old:∀b∈(zU.mk (s1.heap.objs.size+4) (s1.heap.objs.size+2) (s1.heap.objs.size+3) s1.heap.objs.size (s1.heap.objs.size+1) h'.objs.size (h'.objs.size+1)).all,s1.heap.objs.size<=b:=λb hb=>by
  rw[a6] at hb;simp only[zU.all,aA,aP,or_false] at hb;rcases hb with rfl | rfl | rfl | rfl | rfl | rfl <;> first | exact Nat.le_add_right _ _ | exact av _
 have gS:(h'.push { cls:=.type "list",data:=.seq #[] }).get? h'.objs.size=some (lobj [] 0):=Heap.get?_push_size _ rfl;refine callType_codes (Q₁:=λob t=>ob=.ref h'.objs.size/\t={ s1 with heap:=h'.push { cls:=.type "list",data:=.seq #[] } }) PySem.F.called_list (PySem.F.typeCall_list_1 _) PySem.F.entry_list_init (code_list_new _ ⟨rfl,rfl⟩) λob t ht=>?_
 obtain ⟨rfl,rfl⟩:=ht;refine ⟨⟨_,gS,rfl⟩,PySem.F.args_list_init_2 _ _,?_⟩
 have L:Jz X pins σ H1 ⟨s1.heap.objs.size+4,s1.heap.objs.size+2,s1.heap.objs.size+3,s1.heap.objs.size,s1.heap.objs.size+1,h'.objs.size,h'.objs.size+1⟩ l1 l2 0 H1 { s1 with heap:=h'.push { cls:=.type "list",data:=.seq #[] } } :=
  ⟨I2.kept (t':=s1.toks) up,aH.refl _,λb hb=>I1.fpOk (old b hb) (I1.hok.fresh (old b hb)),by rw[Heap.size_push];exact av _,⟨⟨_,_,up _ _ a3⟩,.inl (up _ _ a1)⟩,up _ _ a2,a4.at λo e=>up _ o e,a5.at λo e=>up _ o e⟩
 refine Fg (A':=X.A.in1) (I.ok.hd hc) O hz hl qx qy L gS (up _ _ a1) λs' H' ts acc c I' sm fS gS' vs' prs=>⟨rfl,?_⟩
 have nS:H1 h'.objs.size=none:=I1.hok.fresh (old _ (by simp [zU.all]));have lt:=prs.length;rw[mP] at lt;exact ⟨.ref h'.objs.size,_,I'.track (o:=.lst ts) fS ⟨by lia,acc,c,vs',gS'⟩,rfl,q _ ts _ (sm.trans (aH.new fS.1)) nS aJ (Paired.imp' (λ_ _ z=>z.same (aH.new fS.1)) prs)⟩
end
end L2
namespace Nm
def sA:List Int->Int->Int
 | [],m=>m
 | b :: r,m=>sA r (m*(b / g m b))
theorem qv (hm:0 < m) (hb:0 < b):0 < m*(b / g m b):=gI hm (Co (t:=m) hb)
theorem zD:b∣m*(b / g m b):=by
 have h1:=wo m b;refine ⟨lo m b,?_⟩;have h2:b / g m b*g m b=b:=sV m b
 calc m*(b / g m b)=lo m b*g m b*(b / g m b):=by rw[h1]
  _=lo m b*(b / g m b*g m b):=by rw[jz,jk (g m b)]
  _=b*lo m b:=by rw[h2,jk]
theorem wy:∀{bs:List Int} {m:Int},0 < m->(∀b∈bs,0 < b)->0 < sA bs m
 | [],_,hm,_=>hm
 | b :: r,m,hm,h=>wy (bs:=r) (qv hm (h b cu)) λc hc=>h c (ba _ hc)
theorem AR:∀{bs:List Int} {m:Int},m∣sA bs m
 | [],_=>Ed _
 | b :: r,m=>Int.dvd_trans (Int.dvd_mul_right m _) (AR (bs:=r))
theorem AQ:∀{bs:List Int} {m b:Int},b∈bs->b∣sA bs m
 | c :: r,m,b,h=>by
  rcases aA.mp h with rfl | h
  ·exact Int.dvd_trans zD (AR (bs:=r))
  ·exact AQ (bs:=r) h
end Nm
namespace L2
open PySem PySem.Spec PyProof.Rows Nm
def CD (K:FG9) (H:Hp) (p:Addr) (ns:List (Int×Int)):Prop:=∃xs,H p=some (.lst xs)/\Paired (λn x=>CI K H x n) ns xs
theorem CD.same {K:FG9} (h:CD K H p ns) (e:aH H H'):CD K H' p ns:=by obtain ⟨xs,g,q⟩:=h;exact ⟨xs,e _ _ g,Paired.imp' (λ_ _ z=>e.num z) q⟩
def AF (K:FG9) (T:String):V->Hp->VK->Prop:=λx H Q=>Eu K T x H Q\/∃a xs b,x=.ref a/\mB K H a xs/\PySem.W.kitOne K (.type "tuple") (.type T)=some b/\Q (.bl b) H
theorem yg:∀{bs:List Int} {m b:Int},sA (bs++[b]) m=sA bs m*(b / g (sA bs m) b)
 | [],_,_=>rfl
 | c :: r,m,b=>yg (bs:=r)
def c7 (ns:List (Int×Int)) (B:Int):List Int:=ns.map λn=>n.1*(B / n.2)
def dN (ns:List (Int×Int)):Int:=sA (ns.map (·.2)) 1
def Cz (ns ms:List (Int×Int)):Int:=(List.zipWith (λx y=>x*y) (c7 ns (dN ns)) (c7 ms (dN ms))).sum
theorem nY (h:n∈ns):n.2∣dN ns:=AQ (ay.mpr ⟨n,h,rfl⟩)
theorem BS {K:FG9} (h:ta σ H λvs H1=>∃(l1 l2:Addr) (xs ys:List V),vs=[.ref l1,.ref l2]/\bL K H1 l1 xs/\bL K H1 l2 ys/\ys.length=xs.length /\
 ∀L ts H',aH H1 H'->H1 L=none->H' L=some (.lst ts)->Paired (J5 H') (xs.zip ys) ts->Q (.ref L) H'):Ac K ta σ H Q:=h
theorem Nc (hb:0 < b) (h:Sz k b):Sz k (g m b):=h.le (by
 have h1:(g m b).natAbs=Int.gcd m b:=by unfold g;simp
 rw[h1];exact jx (by lia) (by have:=eB (a:=m) (b:=b);exact fv.mpr this |> λz=>by simpa using z))
theorem CO {ts us:List Int} {i:Nat} (h:((ts.map V.int).zip (us.map V.int))[i]?=some pq):∃t u,ts[i]?=some t/\us[i]?=some u/\pq=(.int t,.int u):=by
 rw[Lv,aB,aB] at h;obtain ⟨h1,h2⟩:=h;cases e1:ts[i]? with
 | none=>rw[e1] at h1;cases h1
 | some t =>
  cases e2:us[i]? with
  | none=>rw[e2] at h2;cases h2
  | some u =>
   rw[e1] at h1;rw[e2] at h2;refine ⟨t,u,rfl,rfl,?_⟩;cases pq;simp at h1 h2;rw[h1,h2]
inductive xX (K:FG9) (vs:List V) (H:Hp) (Q:VK) (E9:XK):Prop
 | mk (p:Addr) (ns:List (Int×Int)):vs=[.ref p,.int ns.length]->CD K H p ns->ns.length<=1000->(∀n∈ns,Bo n)->(∀H',aH H H'->Q (.bl true) H')->xX K vs H Q E9
theorem IW {X:Cx} {a:Expr} {ta:TE} {pos:Pos} {c:Str} {T:String} {p p2:Pos} (hg:Gl X "isinstance") (hm:X.mg "isinstance"=none) (hb:bootBuiltins c=some (.type T)) (hmc:X.mg c=none) (ha:PE X a ta) (hgc:Gl X c:=by rfl) (hn:c≠"__name__":=by decide)
  (hd:(c == ("__debug__":Str))=false:=by decide) (he:starEach [a,.Name c p2] X.env=[(false,eval a X.env),(false,eval (.Name c p2) X.env)]:=by rfl)
  (hpl:(backTo pos (starEach [.Name c p2] X.env)).any (·.1)=false:=by rfl) (he2:starEach [.Name c p2] X.env=[(false,eval (.Name c p2) X.env)]:=by rfl):PE X (.Call (.Name "isinstance" p) [a,.Name c p2] [] pos) (MI (AF X.K T) ta):=by
 intro pins s σ H Q I h;refine wpAny_Call_Name_kw (jv I hg hm PyProof.Rows.boot_isinstance ?_);have hA:PA X [a,.Name c p2] (mT ta (mT (tC (.ty T)) Eh)):=ae ha (ae (Dq hgc hmc hb rfl hn hd) ag he2) (by rw[he,he2])
 have hq:mT ta (mT (tC (.ty T)) Eh) σ H (λvs H1=>∃x,vs=[x,.ty T]/\AF X.K T x H1 Q):=by
  show ta σ H λx H1=>∃x',[x,V.ty T]=[x',V.ty T]/\AF X.K T x' H1 Q
  have e:(λx H1=>∃x',[x,V.ty T]=[x',V.ty T]/\AF X.K T x' H1 Q)=λx H1=>AF X.K T x H1 Q:=by
   funext x H1;apply propext;constructor
   ·rintro ⟨x',e,q⟩;cases e;exact q
   ·intro q;exact ⟨x,rfl,q⟩
  rw[e];exact h
 refine PyProof.Rows.callWith_builtin1 (fB (hA pos pins s σ H _ I hq) λus s1 ⟨vs,H1,I1,r1,x,e,q1⟩=>?_) (by rw[he,he2]) hpl;subst e;obtain ⟨u,w',rfl,ru,rt⟩:=vals2 r1;cases rt;rcases q1 with ⟨t,bb,ty,ek,q⟩ | ⟨ad,xs,bb,rfl,hs,ek,q⟩
 ·exact yi I1 ru ty ek λtk=>⟨.bl bb,H1,I1.tok tk,rfl,q⟩
 ·cases ru;obtain ⟨its,_,⟨o,g1,g2,_⟩,_⟩:=I1.tuple hs;exact cW PySem.W.kitx_tuple I1.kIn ⟨o,g1,g2⟩ ek (λz=>nomatch z) λtk=>⟨.bl bb,H1,I1.tok tk,rfl,q⟩
theorem FD (h:H l=some (.lst [x])) (hk:k<=1000) (q:∀p H',aH H H'->H p=none->H' p=some (.lst (List.replicate k x))->Q (.ref p) H'):Mh (.ref l) (.int k) H Q :=
 ⟨l,k,[x],rfl,rfl,h,by lia,by lia,bf (bK (by simp;lia)),λp hp=>q p _ (aH.new hp) hp (by rw[aJ];simp)⟩
theorem Lj {k:Nat} (h:k<=xs.length):qO xs none (some (k:Int))=xs.take k:=by
 unfold qO;rw[HT.Az,HT.Dd,Hu h];simp
theorem pH {α β:Type} {F:α->β->Prop} {x:α} {y:β} (h:F x y):∀m:Nat,Paired F (List.replicate m x) (List.replicate m y)
 | 0=>.nil
 | m+1=>.cons h (pH h m)
theorem eN (h:a < n):E5 n (a:Int)=some a:=by
 unfold E5;rw[if_pos (by lia),if_pos (by lia),Int.toNat_natCast]
theorem GH {k:Nat}:qO xs none (some (k:Int))=xs.take k:=by
 by_cases h:k<=xs.length
 ·exact Lj h
 ·unfold qO;rw[HT.Az,HT.Dd,Nat.min_eq_right (by lia),aD (by simp),aD (by lia)];rfl
theorem tJ {α β:Type} {F:α->β->Prop}:∀{l1:List α} {l2:List β} (_:Paired F l1 l2) (k:Nat),Paired F (l1.take k) (l2.take k)
 | _,_,.nil,k=>by simp;exact .nil
 | _,_,.cons h r,0=>.nil
 | _,_,.cons h r,k+1=>.cons h (tJ r k)
def IM (K:FG9):List V->Hp->VK->Prop:=λxs H Q=>∃p ys,xs=[.ref p]/\(bL K H p ys\/mB K H p ys)/\∀l,H l=none->Q (.ref l) (upd H l (.lst ys))
theorem kR (K:FG9) (hK:X.K=K):mJ X (.type "list") (IM K):=by subst hK;exact my
theorem aH.none (s:aH H H') (h:H' l=Option.none):H l=Option.none:=by
 cases e:H l with
 | none=>rfl
 | some o=>have:=s _ _ e;rw[h] at this;cases this
theorem BH (h:b.natAbs<=1000000):Sz 20 b:=be h (by decide)
theorem cG.none (u:cG b H H') (B:fI H' b) (h:H' l=Option.none):H l=Option.none:=by
 cases e:H l with
 | none=>rfl
 | some o =>
  by_cases z:l=b
  ·obtain ⟨_,_,_,_,_,e2,_⟩:=B;rw[<- z,h] at e2;cases e2
  ·have:=u.1 l o e z;rw[h] at this;cases this
end L2
namespace Nm
def nm (q:Rat):Int×Int:=(q.num,(q.den:Int))
theorem gA (q:Rat):0 < (nm q).2:=by have:=q.den_pos;show 0 < (q.den:Int);lia
theorem zy (q:Rat):Int.gcd (nm q).1 (nm q).2=1:=q.reduced
theorem K1 (h:nm p=nm q):p=q:=by
 have h1:p.num=q.num:=congrArg Prod.fst h;have h2:(p.den:Int)=q.den:=congrArg Prod.snd h;exact Rat.ext h1 (by lia)
theorem iC (q:Rat):(q.num:Rat)=q*(q.den:Rat):=by
 have h:=Rat.num_divInt_den q;rw[Rat.divInt_eq_div] at h
 have hd:((q.den:Int):Rat)≠0:=by
  intro z;have z:=uI.mp z;have:=q.den_pos
  lia
 have e:((q.den:Int):Rat)=(q.den:Rat):=a7 _
 calc (q.num:Rat)=(q.num:Rat) / ((q.den:Int):Rat)*((q.den:Int):Rat):=(o5 hd).symm
  _=q*(q.den:Rat):=by rw[h,e]
theorem JO (hb:0 < b) (hg:Int.gcd a b=1) (e:q*(b:Rat)=(a:Rat)):(a,b)=nm q:=by
 have h1:a*(q.den:Int)=q.num*b:=by
  apply dj.mp;rw[aR,aR,<- e,iC,a7];grind
 obtain ⟨e1,e2⟩:=uniq hb (gA q) hg (zy q) h1;exact Prod.ext e1 e2
theorem oz {t b:Int} (hb:0 < b) (e:q*(b:Rat)=(t:Rat)):(lo t b,hi t b)=nm q:=by
 refine JO (Co hb) (AO (by lia)) ?_;have h:=Cn t b;have hb':(b:Rat)≠0:=λz=>by have:=uI.mp z;lia
 have h2:((lo t b:Int):Rat)*(b:Rat)=(t:Rat)*((hi t b:Int):Rat):=by rw[<- aR,h,aR]
 rw[<- e] at h2;have h3:(q*((hi t b:Int):Rat) - ((lo t b:Int):Rat))*(b:Rat)=0:=by grind
 rcases mM.mp h3 with h4 | h4
 ·grind
 ·exact absurd h4 hb'
def Fr (M V:Nat) (q:Rat):Prop:=∃z:Int,q*(M:Rat)=(z:Rat)/\z.natAbs<=V*M
theorem Fr.mono (h:Fr M V q) (l:V<=V'):Fr M V' q:=by obtain ⟨z,e,b⟩:=h;exact ⟨z,e,ai b (aG _ l)⟩
theorem Fr.scale (h:Fr M V q) (k:Nat):Fr (M*k) V q:=by
 obtain ⟨z,e,b⟩:=h;refine ⟨z*k,?_,?_⟩
 ·rw[jJ,aR,<- e,a7,Rat.mul_assoc]
 ·rw[di,cF,<- cN];exact aG _ b
theorem Fr.scaleL (h:Fr M V q) (k:Nat):Fr (k*M) V q:=by rw[cH];exact h.scale k
theorem Fr.dvd (h:Fr M V q) (d:M∣N):Fr N V q:=by obtain ⟨k,rfl⟩:=d;exact h.scale k
theorem Fr.add (h:Fr M V p) (h':Fr M W q):Fr M (V+W) (p+q):=by
 obtain ⟨z,e,b⟩:=h;obtain ⟨z',e',b'⟩:=h';refine ⟨z+z',by rw[xl,<- e,<- e',Rat.add_mul],?_⟩;rw[mL];have:=Int.natAbs_add_le z z'
 lia
theorem Fr.neg (h:Fr M V q):Fr M V (-q):=by
 obtain ⟨z,e,b⟩:=h;exact ⟨-z,by rw[ib,<- e,Rat.neg_mul],by rw[yM];exact b⟩
theorem Fr.mul (h:Fr M V p) (h':Fr N W q):Fr (M*N) (V*W) (p*q):=by
 obtain ⟨z,e,b⟩:=h;obtain ⟨z',e',b'⟩:=h';refine ⟨z*z',?_,?_⟩
 ·rw[jJ,aR,<- e,<- e'];grind
 ·rw[di]
  calc z.natAbs*z'.natAbs<=(V*M)*(W*N):=aF b b'
   _=V*W*(M*N):=by rw[cN,Nat.mul_left_comm M,<- cN]
theorem Fr.zero:Fr M V 0:=⟨0,by simp,by simp⟩
theorem Fr.int {i:Int} (h:i.natAbs<=V):Fr M V (i:Rat):=⟨i*M,by rw[aR,a7],by rw[di,cF];exact aG _ h⟩
theorem Fr.one (h:1<=V):Fr M V 1:=Fr.int (i:=1) h
theorem Fr.den (h:Fr M V q):(q.den:Int)∣(M:Int):=by
 obtain ⟨z,e,b⟩:=h
 have h1:q.num*(M:Int)=z*(q.den:Int):=by
  apply dj.mp;rw[aR,aR,<- e,iC,a7,a7];grind
 have h2:(q.den:Int)∣q.num*(M:Int):=⟨z,by rw[h1,jk]⟩;exact mi (by rw[gQ];exact zy q) h2
theorem Fr.den_le (h:Fr M V q) (hM:0 < M):q.den<=M:=jx hM (uK.mp h.den)
theorem Fr.num_le (h:Fr M V q) (hM:0 < M):q.num.natAbs<=V*M:=by
 have hd:=h.den;obtain ⟨z,e,b⟩:=h;obtain ⟨k,hk⟩:=uK.mp hd;have hk0:k≠0:=λz=>by rw[z,D8] at hk;lia
 have h1:z=q.num*(k:Int):=by
  apply dj.mp;rw[aR,<- e,iC,a7,hk,jJ];grind
 rw[h1] at b;exact ai (kH (by lia)) b
theorem Fr.own (q:Rat) (h:q.num.natAbs<=V):Fr q.den V q:=⟨q.num,(iC q).symm,ai h (cT _ q.den_pos)⟩
theorem Fr.sz (h:Fr M V q) (hM:0 < M) (h1:M<=2^k) (h2:V<=2^j):Sz (j+k+1) (nm q).1/\Sz (k+1) (nm q).2:=by
 constructor
 ·show q.num.natAbs < 2^(j+k+1)
  have h3:=h.num_le hM;have h4:V*M<=2^j*2^k:=aF h2 h1;rw[jh,aE];have:=Nat.two_pow_pos (j+k);rw[aE] at this
  lia
 ·show (q.den:Int).natAbs < 2^(k+1)
  have h3:=h.den_le hM;rw[cF,jh];have:=Nat.two_pow_pos k
  lia
theorem Fr.sum {M V:Nat}:∀{l:List Rat},(∀x∈l,Fr M V x)->Fr M (l.length*V) l.sum
 | [],_=>by simp;exact Fr.zero
 | x :: r,h=>by
  rw[LD,bF,fG,Ea];exact (h x (.head _)).add (Fr.sum λy hy=>h y (.tail _ hy))
def bI (xs ys:List Rat):Rat:=(List.zipWith (λx y=>x*y) xs ys).sum
theorem Fr.dot (h:∀x∈xs,Fr M V x) (h':∀y∈ys,Fr N W y):Fr (M*N) (xs.length*(V*W)) (bI xs ys):=by
 have q:=Fr.sum (M:=M*N) (V:=V*W) (l:=List.zipWith (λx y=>x*y) xs ys) λz hz=>by
  obtain ⟨i,hi,e⟩:=bM hz;rw[fH] at e;rw[<- e];exact (h _ (aK _)).mul (h' _ (aK _))
 exact q.mono (aG _ (by rw[bg];lia))
theorem uU:∀{bs:List Int} {m M:Int},0 < m->m∣M->(∀b∈bs,0 < b/\b∣M)->sA bs m∣M
 | [],_,_,_,h,_=>h
 | b :: r,m,M,hm,h,hb=>by
  have b1:=hb b cu;refine uU (bs:=r) (qv hm b1.1) ?_ λc hc=>hb c (ba _ hc)
  have gp:0 < g m b:=wC (by lia);have e1:=wo m b;have e2:=sV m b;obtain ⟨u,hu⟩:=h;obtain ⟨v,hv⟩:=b1.2
  have h3:lo m b*u=hi m b*v:=by
   apply J9 (show g m b≠0 by lia)
   calc lo m b*u*g m b=lo m b*g m b*u:=by rw[jz,jk u,<- jz]
    _=m*u:=by rw[e1]
    _=M:=hu.symm
    _=b*v:=hv
    _=hi m b*g m b*v:=by rw[e2]
    _=hi m b*v*g m b:=by rw[jz,jk (g m b),<- jz]
  have h4:hi m b∣lo m b*u:=⟨v,h3⟩;have h5:hi m b∣u:=mi (by rw[gQ];exact AO (by lia)) h4;obtain ⟨w,hw⟩:=h5;refine ⟨w,?_⟩;show M=m*hi m b*w
  rw[hu,hw,jz]
theorem zI (hb:0 < b) (d:a∣b) (h:Sz k b):Sz k a:=h.le (jx (by lia) (fv.mpr d))
end Nm
namespace Nm
def Dr (W:Nat) (x:Rat):Prop:=x.num.natAbs<=W/\x.den<=W
def p7:List Nat->Nat
 | []=>1
 | a :: r=>a*p7 r
theorem rV:∀{l:List Nat},(∀a∈l,0 < a)->0 < p7 l
 | [],_=>Nat.one_pos
 | a :: r,h=>bN (h a (.head _)) (rV λb hb=>h b (.tail _ hb))
theorem rW:∀{l:List Nat} {a:Nat},a∈l->a∣p7 l
 | b :: r,a,h=>by
  rcases aA.mp h with rfl | h
  ·exact D9 ..
  ·exact Bs (rW h) (uJ ..)
theorem vP {k:Nat}:∀{l:List Nat},(∀a∈l,a<=2^k)->p7 l<=2^(k*l.length)
 | [],_=>by simp [p7]
 | a :: r,h=>by
  rw[bF,Nat.mul_succ,aE,cH (2^(k*r.length))];exact aF (h a (.head _)) (vP λb hb=>h b (.tail _ hb))
def GF (M V:Nat) (rows:LR9):Prop:=∀xs∈rows,∀x∈xs,Fr M V x
def Lr (c n i:Nat) (rows:LR9):Prop:=∃M,0 < M/\M<=2^(i*(c*n+2))/\GF M (2^(20+2*i)) rows
theorem Lc:Lr c n 0 []:=⟨1,by decide,by simp,λ_ h=>nomatch h⟩
theorem Ld (c n i:Nat):(i+1)*(c*n+2)=i*(c*n+2)+(c*n+2):=fG ..
theorem Ji (h:Lr c n i rows) (hl:xs.length=n) (hd:∀x∈xs,Dr (2^c) x) (hc:c<=20):Lr c n (i+1) (rows++[xs]):=by
 obtain ⟨M,h0,h1,h2⟩:=h
 have dp:0 < p7 (xs.map (·.den)):=rV λa ha=>by
  obtain ⟨x,_,rfl⟩:=ay.mp ha;exact x.den_pos
 have dl:p7 (xs.map (·.den))<=2^(c*n):=by
  have:=vP (k:=c) (l:=xs.map (·.den)) λa ha=>by
   obtain ⟨x,hx,rfl⟩:=ay.mp ha;exact (hd x hx).2
  rwa [ak,hl] at this
 refine ⟨M*p7 (xs.map (·.den)),bN h0 dp,?_,λys hy x hx=>?_⟩
 ·rw[Ld,aE];exact aF h1 (ai dl (au (by decide) (by lia)))
 ·rcases az.mp hy with hy | hy
  ·exact ((h2 ys hy x hx).scale _).mono (au (by decide) (by lia))
  ·have e:ys=xs:=by simpa using hy
   subst e;have f:Fr x.den (2^c) x:=Fr.own x (hd x hx).1;have g:=(f.dvd (rW (ay.mpr ⟨x,hx,rfl⟩))).scaleL M;exact g.mono (au (by decide) (by lia))
def cJ (rows:LR9) (w:Nat):LR9:=(List.range w).map λj=>rows.map λxs=>xs.getD j 0
def rz (one other:LR9) (w:Nat):LR9:=one.map λxs=>(cJ other w).map λys=>bI ys xs
theorem cZ:(cJ rows w).length=w:=by simp [cJ]
theorem iQ:∀ys∈cJ rows w,ys.length=rows.length:=λys hy=>by
 obtain ⟨j,_,rfl⟩:=ay.mp hy;exact ak ..
theorem getD_map {α:Type} {l:List α} {f:α->Rat} (h:i < l.length):(l.map f).getD i 0=f l[i]:=by
 rw[aa,aB,af h];rfl
theorem Ee (h:∀xs∈rows,xs.length=w):cJ (cJ rows w) rows.length=rows:=by
 apply gv
 ·exact cZ
 ·intro i h1 h2;have e:(cJ (cJ rows w) rows.length)[i]=(cJ rows w).map λxs=>xs.getD i 0:=by simp [cJ]
  rw[e];have hw:=h rows[i] (aK h2);apply gv
  ·rw[ak,cZ,hw]
  ·intro j h3 h4;rw[lD];have e2:(cJ rows w)[j]'(by rw[cZ];lia)=rows.map λxs=>xs.getD j 0:=by simp [cJ]
   rw[e2,getD_map h2,aa,af h4];rfl
end Nm
namespace L2
open PySem PySem.Spec PyProof.Rows Nm
theorem cG.sqt {K:FG9} (u:cG b H H') (B:fI H b) (h:mB K H a xs):mB K H' a xs:=by
 rcases h with (h | ⟨o,h⟩) | h
 ·exact .inl (.inl (u.tup B h))
 ·exact .inl (.inr ⟨o,u.other (λz=>by obtain ⟨_,_,_,_,_,e,_⟩:=B;rw[z,e] at h;cases h) h⟩)
 ·exact .inr h
theorem Fo {K:FG9} (h:mB K H a xs) (hl:H l=some (.lst ys)):mB K (upd H l o) a xs:=by
 rcases h with (h | ⟨o,h⟩) | h
 ·exact .inl (.inl (by rw[br λz=>by rw[z,hl] at h;cases h];exact h))
 ·exact .inl (.inr ⟨o,by rw[br λz=>by rw[z,hl] at h;cases h];exact h⟩)
 ·exact .inr h
def bQ (K:FG9) (H:Hp) (q:Rat) (x:V):Prop:=CI K H x (nm q)
section
variable {K:FG9} {H H':Hp} {q:Rat} {x:V} {b l p:Addr} {qs:List Rat}
theorem bQ.same (h:bQ K H q x) (e:aH H H'):bQ K H' q x:=e.num h
theorem bQ.upto (h:bQ K H q x) (u:cG b H H') (B:fI H b):bQ K H' q x:=by obtain ⟨p,e,s⟩:=h;exact ⟨p,e,u.sqt B s⟩
theorem bQ.updL (h:bQ K H q x) (hl:H l=some (.lst ys)):bQ K (upd H l o) q x:=by obtain ⟨p,e,s⟩:=h;exact ⟨p,e,Fo s hl⟩
theorem bQ.mk (h:H r=some (.tup [.int a,.int c])) (e:(a,c)=nm q):bQ K H q (.ref r):=⟨r,rfl,by rw[<- e];exact mB.of h⟩
def cx (K:FG9) (H:Hp) (p:Addr) (qs:List Rat):Prop:=∃xs,H p=some (.lst xs)/\Paired (bQ K H) qs xs
theorem cx.same (h:cx K H p qs) (e:aH H H'):cx K H' p qs:=by obtain ⟨xs,g,r⟩:=h;exact ⟨xs,e _ _ g,Paired.imp' (λ_ _ z=>z.same e) r⟩
theorem cx.upto (h:cx K H p qs) (u:cG b H H') (B:fI H b) (n:p≠b):cx K H' p qs:=by obtain ⟨xs,g,r⟩:=h;exact ⟨xs,u.other n g,Paired.imp' (λ_ _ z=>z.upto u B) r⟩
theorem cx.updL (h:cx K H p qs) (hl:H l=some (.lst ys)) (n:p≠l):cx K (upd H l o) p qs:=by obtain ⟨xs,g,r⟩:=h;exact ⟨xs,by rw[br n];exact g,Paired.imp' (λ_ _ z=>z.updL hl) r⟩
theorem tK {α β γ:Type} {F:α->β->Prop} {f:γ->α}:∀{l:List γ} {l2:List β},Paired (λc x=>F (f c) x) l l2->Paired F (l.map f) l2
 | _,_,.nil=>.nil
 | _,_,.cons r t=>.cons r (tK t)
theorem cx.rowK (h:cx K H p qs):CD K H p (qs.map nm):=by obtain ⟨xs,g,r⟩:=h;exact ⟨xs,g,tK (F:=λn x=>CI K H x n) r⟩
def dA (K:FG9) (H0 H:Hp) (qs:List Rat) (x:V):Prop:=∃q,x=V.ref q/\H0 q=none/\cx K H q qs
def bR (K:FG9) (H0 H:Hp) (p:Addr) (rows:LR9):Prop:=∃xs,H p=some (.lst xs)/\Paired (dA K H0 H) rows xs/\V.ref p∉xs
theorem kW {rows:LR9} (h:∃H2,H2 p=none/\Paired (dA K H0 H2) rows ys):V.ref p∉ys:=λhm=>by
 obtain ⟨H2,e,pr⟩:=h;obtain ⟨qs,_,q,z,_,xs,g,_⟩:=cP pr hm;cases z;rw[e] at g;cases g
variable {H0:Hp} {rows:LR9}
theorem dA.same (h:dA K H0 H qs x) (e:aH H H'):dA K H0 H' qs x:=by obtain ⟨q,a,b,c⟩:=h;exact ⟨q,a,b,c.same e⟩
theorem dA.upto (h:dA K H0 H qs x) (u:cG b H H') (B:fI H b) (nb:H0 b≠none):dA K H0 H' qs x:=by obtain ⟨q,a,c,d⟩:=h;exact ⟨q,a,c,d.upto u B λz=>nb (by rw[<- z];exact c)⟩
theorem dA.weak (h:dA K H0 H qs x) (e:aH H1 H0):dA K H1 H qs x:=by obtain ⟨q,a,b,c⟩:=h;exact ⟨q,a,e.none b,c⟩
theorem bR.same (h:bR K H0 H p rows) (e:aH H H'):bR K H0 H' p rows:=by obtain ⟨xs,g,r,n⟩:=h;exact ⟨xs,e _ _ g,Paired.imp' (λ_ _ z=>z.same e) r,n⟩
theorem bR.upto (h:bR K H0 H p rows) (u:cG b H H') (B:fI H b) (n:p≠b) (nb:H0 b≠none):bR K H0 H' p rows:=by obtain ⟨xs,g,r,nn⟩:=h;exact ⟨xs,u.other n g,Paired.imp' (λ_ _ z=>z.upto u B nb) r,nn⟩
theorem bR.weak (h:bR K H0 H p rows) (e:aH H1 H0):bR K H1 H p rows:=by obtain ⟨xs,g,r,n⟩:=h;exact ⟨xs,g,Paired.imp' (λ_ _ z=>z.weak e) r,n⟩
end
def F7:Kind Rat:=M8.via nm (λ_ _ e=>K1 e) (λK H x q=>bQ K H q x) id
def gL (x:Rat):Prop:=Sz 4000 (nm x).1/\Sz 4000 (nm x).2
def Fits (l:List Rat):Prop:=∃M V:Nat,0 < M/\M<=2^900/\V<=2^900/\∀x∈l,Fr M V x
theorem Fits.szn (h:Fits l) (hx:x∈l):gL x:=by
 obtain ⟨M,V,h0,h1,h2,h3⟩:=h;obtain ⟨a,b⟩:=(h3 x hx).sz h0 h1 h2;exact ⟨a.mono (by decide),b.mono (by decide)⟩
theorem Fits.ok (h:Fits l) (hx:x∈l):Bo (nm x):=⟨gA x,zy x,(h.szn hx).1.mono (by decide),(h.szn hx).2.mono (by decide)⟩
theorem Cu {M V:Nat} (h0:0 < M) (h1:M<=2^1800) (h2:V<=2^1810) (h:Fr M V x):gL x:=by
 obtain ⟨a,b⟩:=h.sz h0 h1 h2;exact ⟨a.mono (by decide),b.mono (by decide)⟩
inductive lH (K:FG9) (f:Rat->Rat->Rat) (vs:List V) (H:Hp) (Q:VK) (E9:XK):Prop
 | mk (u v:V) (x y:Rat):vs=[u,v]->bQ K H x u->bQ K H y v->gL x->gL y->(∀r H',aH H H'->bQ K H' (f x y) (.ref r)->Q (.ref r) H')->lH K f vs H Q E9
section
variable {K:FG9} {vs:List V} {H:Hp} {Q:VK} {E:XK}
theorem BZ (hf:∀x y:Rat,(f x y)*(((nm x).2*(nm y).2:Int):Rat)=((F (nm x).1 (nm x).2 (nm y).1 (nm y).2:Int):Rat)) (h:lH K f vs H Q E):C9 K F vs H Q E:=by
 obtain ⟨u,v,x,y,rfl,⟨p,rfl,hp⟩,⟨q,rfl,hq⟩,⟨s1,s2⟩,⟨s3,s4⟩,k⟩:=h;refine ⟨p,q,_,_,_,_,rfl,hp,hq,gA x,gA y,s1,s2,s3,s4,λr H' s g=>k r H' s (bQ.mk g ?_)⟩;exact oz (gI (gA x) (gA y)) (hf x y)
theorem pM (x:Rat):(((nm x).1:Int):Rat)=x*(((nm x).2:Int):Rat):=by
 show (x.num:Rat)=x*(((x.den:Nat):Int):Rat)
 rw[iC,a7]
theorem DV (h:lH K (λx y=>x+y) vs H Q E):C9 K JX vs H Q E:=BZ (λx y=>by
 unfold JX;rw[xl,aR,aR,aR,pM,pM];grind) h
theorem uR (h:lH K (λx y=>x - y) vs H Q E):C9 K Gv vs H Q E:=BZ (λx y=>by
 unfold Gv;rw[Rat.intCast_sub,aR,aR,aR,pM,pM];grind) h
theorem Dt (h:lH K (λx y=>x*y) vs H Q E):C9 K Gs vs H Q E:=BZ (λx y=>by
 unfold Gs;rw[aR,aR,pM,pM];grind) h
end
def Bn (M:Int) (ns:List (Int×Int)):Prop:=0 < M/\Sz 4400 M/\∀n∈ns,0 < n.2/\n.2∣M/\Sz 4400 n.1
theorem Bn.bot (h:Bn M ns):0 < dN ns/\Sz 4400 (dN ns):=by
 have hb:∀b∈ns.map (·.2),0 < b/\b∣M:=λb hb=>by
  obtain ⟨n,hn,rfl⟩:=ay.mp hb;exact ⟨(h.2.2 n hn).1,(h.2.2 n hn).2.1⟩
 exact ⟨wy (by decide) λb q=>(hb b q).1,zI h.1 (uU (by decide) (Int.one_dvd _) hb) h.2.1⟩
inductive Fp (K:FG9) (vs:List V) (H:Hp) (Q:VK) (E9:XK):Prop
 | mk (p:Addr) (bs:List Int) (M:Int):vs=[.ref p]->bL K H p (bs.map V.int)->0 < M->Sz 4400 M->((∀b∈bs,0 < b/\b∣M))->Q (.int (sA bs 1)) H->Fp K vs H Q E9
inductive Fq (K:FG9) (vs:List V) (H:Hp) (Q:VK) (E9:XK):Prop
 | mk (p:Addr) (ns:List (Int×Int)) (M:Int):vs=[.ref p]->CD K H p ns->ns.length<=1000->Bn M ns->(∀H',aH H H'->Q (.int (dN ns)) H')->Fq K vs H Q E9
inductive Ag (K:FG9) (vs:List V) (H:Hp) (Q:VK) (E9:XK):Prop
 | mk (p:Addr) (ns:List (Int×Int)) (M:Int) (B:Int):vs=[.ref p,.int B]->CD K H p ns->ns.length<=1000->Bn M ns->0 < B->Sz 4400 B->(∀r H',H r=none->aH H H'->H' r=some (.lst ((c7 ns B).map V.int))->Q (.ref r) H')->Ag K vs H Q E9
theorem pW (h:Bn M ns) (hB:0 < B) (sB:Sz 4400 B) (ht:t∈c7 ns B):Sz 8800 t:=by
 obtain ⟨n,hn,rfl⟩:=ay.mp ht;have hp:=h.2.2 n hn
 have sq:Sz 4400 (B / n.2):=sB.le (by
  rw[Lx (by lia)];exact Nat.div_le_self ..)
 exact (hp.2.2.mul sq).mono (by lia)
theorem mR (h:(nm x).2∣B):(((nm x).1*(B / (nm x).2):Int):Rat)=x*(B:Rat):=by
 obtain ⟨k,rfl⟩:=h;have hp:=gA x;rw[Int.mul_ediv_cancel_left _ (by lia),aR,aR,pM];grind
theorem AX {B C:Int}:∀{xs ys:List Rat},(∀x∈xs,(nm x).2∣B)->(∀y∈ys,(nm y).2∣C)->(((List.zipWith (λx y=>x*y) (c7 (xs.map nm) B) (c7 (ys.map nm) C)).sum:Int):Rat)=bI xs ys*((B:Rat)*(C:Rat))
 | [],ys,_,_=>by simp [c7,bI]
 | x :: xs,[],_,_=>by simp [c7,bI]
 | x :: xs,y :: ys,h1,h2=>by
  have ih:=AX (B:=B) (C:=C) (xs:=xs) (ys:=ys) (λz hz=>h1 z (.tail _ hz)) (λz hz=>h2 z (.tail _ hz));have e1:=mR (h1 x (.head _));have e2:=mR (h2 y (.head _));have e3:(List.zipWith (λx y=>x*y) (c7 ((x :: xs).map nm) B) (c7 ((y :: ys).map nm) C)).sum=((nm x).1*(B / (nm x).2))*((nm y).1*(C / (nm y).2))+(List.zipWith (λx y=>x*y) (c7 (xs.map nm) B) (c7 (ys.map nm) C)).sum:=rfl;have e4:bI (x :: xs) (y :: ys)=x*y+bI xs ys:=rfl;rw[e3,e4,xl,aR,ih,e1,e2];grind
theorem DI (h1:0 < dN (xs.map nm)) (h2:0 < dN (ys.map nm)):(lo (Cz (xs.map nm) (ys.map nm)) (dN (xs.map nm)*dN (ys.map nm)),hi (Cz (xs.map nm) (ys.map nm)) (dN (xs.map nm)*dN (ys.map nm)))=nm (bI xs ys):=by
 refine oz (gI h1 h2) ?_;unfold Cz;rw[AX (λx hx=>nY (ay.mpr ⟨x,hx,rfl⟩)) (λx hx=>nY (ay.mpr ⟨x,hx,rfl⟩)),aR]
inductive Af (K:FG9) (vs:List V) (H:Hp) (Q:VK) (E9:XK):Prop
 | mk (p:Addr) (w:Nat) (H0:Hp) (rows:LR9):vs=[.ref p,.int w]->bR K H0 H p rows->rows.length<=1000->w<=1000->(∀xs∈rows,xs.length=w)->(∀r H',H r=none->aH H H'->bR K H H' r (cJ rows w)->Q (.ref r) H')->Af K vs H Q E9
inductive vp (K:FG9) (vs:List V) (H:Hp) (Q:VK) (E9:XK):Prop
 | mk (b:Addr) (w:Nat):vs=[.ref b,.int w]->fI H b->1<=w->w<=1000000->(∀r x H',Dr (max w 6) x->bQ K H' x (.ref r)->fI H' b->cG b H H'->Q (.ref r) H')->vp K vs H Q E9
inductive Ar (K:FG9) (vs:List V) (H:Hp) (Q:VK) (E9:XK):Prop
 | mk (b:Addr) (m w:Nat):vs=[.ref b,.int m,.int w]->fI H b->m<=1000->1<=w->w<=1000000->(∀r xs H',H r=none->cx K H' r xs->xs.length=m->(∀x∈xs,Dr (max w 6) x)->fI H' b->cG b H H'->Q (.ref r) H')->Ar K vs H Q E9
inductive Aj (K:FG9) (vs:List V) (H:Hp) (Q:VK) (E9:XK):Prop
 | mk (p q:Addr) (xs ys:List Rat):vs=[.ref p,.ref q]->cx K H p xs->cx K H q ys->ys.length=xs.length->xs.length<=1000->(∀x∈xs,gL x)->(∀y∈ys,gL y)->(∀r H',H r=none->aH H H'->cx K H' r (List.zipWith (λx y=>x+y) xs ys)->Q (.ref r) H')->Aj K vs H Q E9
inductive Fs (K:FG9) (vs:List V) (H:Hp) (Q:VK) (E9:XK):Prop
 | mk (u:V) (q:Addr) (c:Rat) (ys:List Rat):vs=[u,.ref q]->bQ K H c u->gL c->cx K H q ys->ys.length<=1000->(∀y∈ys,gL y)->(∀r H',H r=none->aH H H'->cx K H' r (ys.map λy=>c*y)->Q (.ref r) H')->Fs K vs H Q E9
inductive vz (K:FG9) (vs:List V) (H:Hp) (Q:VK) (E9:XK):Prop
 | mk (p:Addr) (H0:Hp) (rows:LR9):vs=[.ref p]->bR K H0 H p rows->rows.length<=1000->(∀xs∈rows,xs.length<=1000)->(∀r H',H r=none->aH H H'->bR K H H' r rows->Q (.ref r) H')->vz K vs H Q E9
section
variable {K:FG9} {a:Addr} {xs:List V} {g:TG} {tf:TT} {te:TE} {Q:VK} {σ₀:St} {H:Hp} {α β:Type}
theorem dd {F:Hp->α->V->Prop} (G:Hp->β->V->Prop) (f:α->β) (hx:H a=some (.lst xs)) (pf:Paired (F H) as xs) (hl:as.length<=1000)
  (hF:∀{H H' c x},F H c x->aH H H'->F H' c x) (hG:∀{H H' c x},G H c x->aH H H'->G H' c x)
  (hs:∀(i:Nat) c x H' NY NN,as[i]?=some c->aH H H'->F H' c x->(∀y H2,aH H' H2->G H2 (f c) y->NY y H2)->mS σ₀ g tf te x H' NY NN)
  (hd:∀ys H' p,H p=none->aH H H'->H' p=some (.lst ys)->Paired (G H') (as.map f) ys->(∃H2,H2 p=none/\Paired (G H2) (as.map f) ys)->Q (.ref p) H'):oj (JA K a) σ₀ g tf te Q H:=by
 have lx:=pf.length;refine fW (K:=K) (xs:=xs) (λi ys H'=>aH H H'/\Paired (G H') ((as.take i).map f) ys) (bf (bK (by lia))) ⟨aH.refl _,.nil⟩ (λi ys H' _ ⟨s,_⟩=>bL.of (s _ _ hx)) ?_ ?_
 ·rintro i x ys H' hx' hlen ⟨s,pr⟩;obtain ⟨c,ec,hc⟩:=ck pf hx';refine hs i c x H' _ _ ec s (hF hc s) λy H2 s2 gy=>⟨s.trans s2,?_⟩
  rw[take_snoc ec,cX];exact b9 (Paired.imp' (λ_ _ z=>hG z s2) pr) (.cons gy .nil)
 ·rintro ys H' hy ⟨s,pr⟩ p hp;rw[aD (by lia)] at pr;exact hd ys _ p (s.none hp) (s.trans (aH.new hp)) aJ (Paired.imp' (λ_ _ z=>hG z (aH.new hp)) pr) ⟨H',hp,pr⟩
theorem fV (G:Hp->β->V->Prop) (f:Nat->β) (hl:n<=1000) (hG:∀{H H' c x},G H c x->aH H H'->G H' c x)
  (hs:∀(i:Nat) H' NY NN,i < n->aH H H'->(∀y H2,aH H' H2->G H2 (f i) y->NY y H2)->mS σ₀ g tf te (.int i) H' NY NN)
  (hd:∀ys H' p,H p=none->aH H H'->H' p=some (.lst ys)->Paired (G H') ((List.range n).map f) ys->(∃H2,H2 p=none/\Paired (G H2) ((List.range n).map f) ys)->Q (.ref p) H'):oj (Bv 0 n) σ₀ g tf te Q H:=by
 refine pT (λi ys H'=>aH H H'/\Paired (G H') ((List.range i).map f) ys) (bf (bK (by lia))) ⟨aH.refl _,.nil⟩ ?_ ?_
 ·rintro i ys H' hi hlen ⟨s,pr⟩;rw[Ec];refine hs i H' _ _ hi s λy H2 s2 gy=>⟨s.trans s2,?_⟩
  rw[List.range_succ,cX];exact b9 (Paired.imp' (λ_ _ z=>hG z s2) pr) (.cons gy .nil)
 ·rintro ys H' hy ⟨s,pr⟩ p hp;exact hd ys _ p (s.none hp) (s.trans (aH.new hp)) aJ (Paired.imp' (λ_ _ z=>hG z (aH.new hp)) pr) ⟨H',hp,pr⟩
theorem tj (G:Hp->β->V->Prop) (C:β->Prop) (hB:fI H b) (hl:n<=1000) (hG:∀{H' H'' c x},G H' c x->cG b H' H''->fI H' b->G H'' c x)
  (hs:∀(i:Nat) H' NY NN,i < n->cG b H H'->fI H' b->(∀y c H2,cG b H' H2->fI H2 b->C c->G H2 c y->NY y H2)->mS σ₀ g tf te (.int i) H' NY NN)
  (hd:∀ys cs H' p,H p=none->cG b H H'->fI H' b->H' p=some (.lst ys)->cs.length=n->(∀c∈cs,C c)->Paired (G H') cs ys->(∃H2,H2 p=none/\Paired (G H2) cs ys)->Q (.ref p) H'):oj (Bv 0 n) σ₀ g tf te Q H:=by
 refine pT (λi ys H'=>cG b H H'/\fI H' b/\∃cs,cs.length=i/\(∀c∈cs,C c)/\Paired (G H') cs ys) (bf (bK (by lia))) ⟨(aH.refl _).upto,hB,[],rfl,(λ_ z=>nomatch z),.nil⟩ ?_ ?_
 ·rintro i ys H' hi hlen ⟨u,B,cs,lc,hc,pr⟩;rw[Ec];refine hs i H' _ _ hi u B λy c H2 u2 B2 cc gy=>⟨u.trans u2,B2,cs++[c],by simp [lc],uY hc cc,b9 (Paired.imp' (λ_ _ z=>hG z u2 B) pr) (.cons gy .nil)⟩
 ·rintro ys H' hy ⟨u,B,cs,lc,hc,pr⟩ p hp;have s:aH H' (upd H' p (.lst ys)):=aH.new hp;exact hd ys cs _ p (u.none B hp) (u.same s) (B.same s) aJ lc hc (Paired.imp' (λ_ _ z=>hG z s.upto B) pr) ⟨H',hp,pr⟩
end
section
variable {X:Cx}
theorem dW {g:TG} {tb:TS} {D:Ends} (Pv:Nat->St->Hp->Prop) (h0:Pv 0 σ H)
  (hs:∀(i:Nat) σ H,i < n->Pv i σ H->g (.int i) σ H λσ2 H2=>tb { D with nx:=Pv (i+1),ct:=Pv (i+1),bk:=D.nx } σ2 H2) (hd:∀σ H,Pv n σ H->D.nx σ H) :
  ∃W:Nat->Nat->St->Hp->Prop,(∃m,W 0 m σ H)/\∀i m σ H,W i m σ H →
   ((Bv 0 n).stop i H/\D.nx σ H)\/((Bv 0 n).go i H/\∃N:St->Hp->Prop,(∀σ' H',N σ' H'->∃m',m' < m/\W (i+1) m' σ' H')/\∀x H',(Bv 0 n).yld i H x H'->g x σ H' λσ2 H2=>tb { D with nx:=N,ct:=N,bk:=D.nx } σ2 H2) :=
 yj (lo:=0) Pv h0 (λi σ H hi p=>by rw[Ec];exact hs i σ H hi p) hd
theorem lh:mJ X (.type "int") (λxs H Q=>∃b:Bool,xs=[.bl b]/\Q (.int (if b=true then 1 else 0)) H):=by
 intro pins s σ H xs us Q I r h;obtain ⟨b,rfl,q⟩:=h;obtain ⟨u,rfl,ru⟩:=vals1 r;cases ru;exact call_int_bool ⟨.int _,H,I.tok _,⟨_,rfl⟩,q⟩
theorem xF (K:FG9) (hK:X.K=K):mJ X (.builtin "len") (λxs H Q=>∃p ys,xs=[.ref p]/\(bL K H p ys\/mB K H p ys)/\Q (.int ys.length) H):=by subst hK;exact bD
theorem Dj {st:Stmt}:PS X st (λ_ _ _=>False):=λ_ _ _ _ _ _ h=>h.elim
end
theorem Cm {t b:Int} (hb:0 < b) (h1:t.natAbs<=W) (h2:b.natAbs<=W):∃q:Rat,(lo t b,hi t b)=nm q/\Dr W q/\q*(b:Rat)=(t:Rat):=by
 have hb':(b:Rat)≠0:=λz=>by have:=uI.mp z;lia
 have e:(t:Rat) / (b:Rat)*(b:Rat)=t:=o5 hb';have h:=oz hb e;refine ⟨_,h,⟨?_,?_⟩,e⟩
 ·have:=congrArg Prod.fst h;have z:=lo_le (t:=t) (b:=b) (by lia);show ((nm ((t:Rat) / (b:Rat))).1).natAbs<=W
  rw[<- this];exact ai z h1
 ·have:=congrArg Prod.snd h;have z:=JV (t:=t) (b:=b) (by lia);have hd:(((t:Rat) / (b:Rat)).den:Int)=hi t b:=this.symm;have hp:=Co (t:=t) hb
  lia
theorem Dz {K:FG9} (h:Paired (bQ K H) qs xs) (hj:j < qs.length):∃v,CA xs (j:Int)=some v/\bQ K H (qs.getD j 0) v:=by
 have hl:=h.length;refine ⟨xs[j]'(by lia),fF (by simp),?_⟩;have:=iW h (i:=j) hj (by lia);rwa [aa,af hj]
theorem sX {xs ys:List Rat} (h1:i < xs.length) (h2:i < ys.length):bI (xs.take (i+1)) (ys.take (i+1))=bI (xs.take i) (ys.take i)+xs.getD i 0*ys.getD i 0:=by
 have e1:xs[i]?=some (xs.getD i 0):=by rw[aa,af h1];rfl
 have e2:ys[i]?=some (ys.getD i 0):=by rw[aa,af h2];rfl
 unfold bI;rw[take_snoc e1,take_snoc e2,List.zipWith_append (by simp;lia),List.sum_append];simp [va]
theorem getD_mem {xs:List Rat} (h:i < xs.length):xs.getD i 0∈xs:=by
 rw[aa,af h];exact aK h
theorem xJ {xs ys:List Rat} (h:ys.length=xs.length):List.zipWith (λx y=>x+y) xs ys=(List.range xs.length).map λi=>xs.getD i 0+ys.getD i 0:=by
 apply iO;intro i;rw[bx,aB];by_cases hi:i < xs.length
 ·rw[cO hi,af hi,af (show i < ys.length by lia)];simp [aa,af hi,af (show i < ys.length by lia)]
 ·rw[aW (show (List.range xs.length).length<=i by simp;lia),aW (show xs.length<=i by lia)];rfl
theorem dA.updL {K:FG9} (h:dA K H0 H qs x) (hl:H l=some (.lst ys)) (nl:H0 l≠none):dA K H0 (upd H l o) qs x:=by obtain ⟨q,a,b,c⟩:=h;exact ⟨q,a,b,c.updL hl λz=>nl (by rw[<- z];exact b)⟩
theorem fI.at (B:fI H b):H b≠none:=by obtain ⟨_,_,_,_,_,e,_⟩:=B;rw[e];simp
theorem Inner.at (B:fI H b) (i:Inner H b q):H q≠none:=by
 obtain ⟨q',i',xs,e⟩:=B.inner;rw[<- Inner.inj i' i,e];simp
theorem iX {F:α->β->Prop} {l1:List α} {l2:List β} (h:Paired F l1 l2) (hi:i < l1.length):∃x y,l1[i]?=some x/\l2[i]?=some y/\x∈l1/\F x y:=by
 have hl:=h.length;exact ⟨l1[i],l2[i]'(by lia),by simp,by simp,aK _,iW h hi (by lia)⟩
theorem DR (h1:-(2^64) < i) (h2:i < 2^64):fe i j:=.inl (.inl ⟨h1,h2⟩)
theorem Js (h1:-(2^64) < j) (h2:j < 2^64):fe i j:=.inl (.inr ⟨h1,h2⟩)
def Lz (K : FG9) (l : Addr) : It :=
  ⟨λi H => ∃ xs x, bL K H l xs /\ xs[i]? = some x,
   λi H v H' => ∃ p x, v = .ref p /\ H p = none /\ H' = upd H p (.tup [.int i, x]) /\ ∀ xs, bL K H l xs → xs[i]? = some x,
   λi H => ∃ xs, bL K H l xs /\ xs.length ≤ i⟩
def tnE (e it l:Addr) (i:Nat) (h:Heap):Prop:=(∃old,IsEnum h e it i old)/\h.IsListIter it l i
theorem Eg {P:Program} {w:World} {K:FG9} {elts:List Expr} {kk:Nat} {tpos:Pos} (e it l:Addr) (hei:e≠it):Turn P w K (.Tuple elts kk tpos) (Lz K l) [e,it] e (tnE e it l) where
 mem:=by simp
 obj:=λi h st b hb=>by
  obtain ⟨⟨old,he⟩,⟨o1,g1,c1,d1⟩⟩:=st;simp only[aA,aP,or_false] at hb;rcases hb with rfl | rfl
  ·exact ⟨_,he,λv q=>nomatch q⟩
  ·exact ⟨o1,g1,λv q=>by rw[d1] at q;cases q⟩
 keep:=λi h h' st k=>by
  obtain ⟨⟨old,he⟩,h1⟩:=st;exact ⟨⟨old,k e (by simp) _ he⟩,h1.at λo q=>k it (by simp) o q⟩
 item:=by
  intro X hP hw hK hc i pins s σ H E I hf st hg;subst hP hw hK;obtain ⟨⟨old,he⟩,h1⟩:=st;obtain ⟨xs,x,qx,ex⟩:=hg;obtain ⟨us,rx,px,_⟩:=I.list qx;obtain ⟨u,eu,ru⟩:=rx.get ex;refine wpAny_pyNext_enum_item he h1 px.isList (x:=u) (by simpa using eu) hei λh' a1 a2 a3 a4 hk=>?_
  refine ⟨_,rfl,wpAny_letOwnedTupleGo_enum a1 λh'' he'' hs=>?_⟩;have hT0:H s.heap.objs.size=none:=I.hok.fresh (av _);have ene:s.heap.objs.size≠e:=D7 (Heap.lt_size he)
  have up:∀b o,b∉[e,it]->s.heap.get? b=some o->h''.get? b=some o:=λb o hb q=>by
   simp only[aA,aP,or_false,not_or] at hb;exact (hs.2 b hb.1).trans (hk b o hb.1 hb.2 q)
  have tup:h''.get? s.heap.objs.size=some { cls:=.type "tuple",data:=.seq #[.int i s.toks,u] }:=(hs.2 _ ene).trans a3;have I1:Inv X pins σ H { s with heap:=h'',toks:=s.toks+1 }:=I.moved (g':=s.gens) (d':=s.drawn) (t':=s.toks+1) (ch:=[e,it]) hf up I.bare;have fT:ja X pins H s.heap.objs.size:=I.fpOk (av _) hT0;have I2:=I1.track (o:=.tup [.int i,x]) fT ⟨ij rfl,[.int i s.toks,u],.cons ⟨_,rfl⟩ (.cons ru .nil),⟨_,tup,rfl,_,rfl⟩⟩;refine ⟨.ref s.heap.objs.size,_,I2,rfl,⟨_,x,rfl,hT0,rfl,λxs' q=>by rw[I.list_inj q qx];exact ex⟩,?_,λb hb=>?_⟩
  ·exact ⟨⟨_,by simpa using he''⟩,a2.at λo q=>(hs.2 _ hei.symm).trans q⟩
  ·rw[br]
   ·exact (hf b hb).1
   ·obtain ⟨o1,g1,_⟩:=h1;simp only[aA,aP,or_false] at hb;rcases hb with rfl | rfl
    ·exact ene.symm
    ·exact cC (Heap.lt_size g1)
 done:=by
  intro X hP hw hK hc i pins s σ H E I hf st hg;subst hP hw hK;obtain ⟨⟨old,he⟩,h1⟩:=st;obtain ⟨xs,qx,hend⟩:=hg;obtain ⟨us,rx,px,_⟩:=I.list qx;have lx:=rx.length;refine wpAny_pyNext_enum_end (I.ok.hd hc) he h1 px.isList (by simp;lia) λh' hk=>⟨rfl,?_⟩
  exact I.moved (g':=s.gens) (d':=s.drawn) (t':=s.toks) (ch:=[e,it]) hf (λb o hb q=>hk b o (λz=>hb (by simp [z])) q) I.bare
 self:=λ_ _ _ _ _ st h=>let ⟨⟨_,he⟩,_⟩:=st;wpAny_pyIter_enum he h
section
variable {X:Cx}
def JU (K:FG9) (ta:TA):TI:=λσ H R=>ta σ H λvs H1=>∃l,vs=[.ref l]/\(∃xs,bL K H1 l xs)/\R (Lz K l) H1
theorem IT {a:Expr} {ta:TA} {p pos tpos:Pos} {elts:List Expr} {kk:Nat} (hg:Gl X "enumerate") (hm:X.mg "enumerate"=none) (ha:PA X [a] ta) (hs:starEach [a] X.env=[(false,eval a X.env)]:=by rfl) :
  PI X (.Tuple elts kk tpos) (.Call (.Name "enumerate" p) [a] [] pos) (JU X.K ta):=by
 intro pins s σ H R I h;refine Call_ (jv I hg hm boot_enumerate (PyProof.Rows.callWith_type1 (fB (ha pos pins s σ H _ I h) λus s1 ⟨vs,H1,I1,r1,q1⟩=>?_) (by rw[hs];rfl) rfl));obtain ⟨l,e,⟨xs,qx⟩,q⟩:=q1;subst e;obtain ⟨u,rfl,ru⟩:=vals1 r1;cases ru;obtain ⟨us,rx,px,_⟩:=I1.list qx;refine call_enumerate_list px.isList λh' a1 a2 a3 hk=>wpAny_pyIter_enum a1 ?_
 have I2:Inv X pins σ H1 { s1 with heap:=h' }:=I1.kept (t':=s1.toks) hk;refine ⟨_,[s1.heap.objs.size+1,s1.heap.objs.size],_,_,H1,rfl,I2,Eg (s1.heap.objs.size+1) s1.heap.objs.size l (Nat.succ_ne_self _),⟨⟨_,a1⟩,a2⟩,λb hb=>?_,q⟩
 have hb':s1.heap.objs.size<=b:=by
  simp only[aA,aP,or_false] at hb;rcases hb with rfl | rfl <;> first | exact yK _ | exact av _
 exact I1.fpOk hb' (I1.hok.fresh hb')
end
theorem FH {K:FG9} (h:ta σ H λvs H1=>∃l,vs=[.ref l]/\(∃xs,bL K H1 l xs)/\R (Lz K l) H1):JU K ta σ H R:=h
theorem Gn {K:FG9} {g:TG} {tb:TS} {D:Ends} (Pv:Nat->St->Hp->Prop) (h0:Pv 0 σ H) (hl:∀i σ H,i<=xs.length->Pv i σ H->bL K H l xs)
  (hs:∀i x σ H p,xs[i]?=some x->Pv i σ H->H p=none->g (.ref p) σ (upd H p (.tup [.int i,x])) λσ2 H2=>tb { D with nx:=Pv (i+1),ct:=Pv (i+1),bk:=D.nx } σ2 H2) (hd:∀σ H,Pv xs.length σ H->D.nx σ H) :
  ∃W:Nat->Nat->St->Hp->Prop,(∃m,W 0 m σ H)/\∀i m σ H,W i m σ H →
   ((Lz K l).stop i H/\D.nx σ H)\/((Lz K l).go i H/\∃N:St->Hp->Prop,(∀σ' H',N σ' H'->∃m',m' < m/\W (i+1) m' σ' H')/\∀x H',(Lz K l).yld i H x H'->g x σ H' λσ2 H2=>tb { D with nx:=N,ct:=N,bk:=D.nx } σ2 H2):=by
 refine ⟨λi m σ H=>m=xs.length - i/\i<=xs.length/\Pv i σ H,⟨xs.length,by simp,bJ _,h0⟩,?_⟩;rintro i m σ H ⟨rfl,hi,p⟩;have q1:=hl i σ H hi p;by_cases hlt:i < xs.length
 ·refine .inr ⟨⟨xs,xs[i],q1,by simp [hlt]⟩,Pv (i+1),λσ' H' p'=>⟨xs.length - (i+1),by lia,rfl,hlt,p'⟩,λx H' y=>?_⟩;obtain ⟨r,x',rfl,hr,rfl,e1⟩:=y;exact hs i x' σ _ r (e1 xs q1) p hr
 ·have e:i=xs.length:=by lia
  subst e;exact .inl ⟨⟨xs,q1,av _⟩,hd σ H p⟩
section
variable {X:Cx}
theorem Dp (K:FG9) {e:Expr} {f:Str} {pos:Pos} {ta:TE} (he:PE X e ta) (hb:attributeBase e f X.env (eval e X.env)=eval e X.env) (hK:X.K=K:=by rfl):PE X (.Attribute e f pos) (Ki K ta f):=by subst hK;exact jt he hb
end
theorem KH {K:FG9} (h:ta σ H λx H1=>∃a C dx fs v,x=.ref a/\H1 a=some (.ins C dx fs)/\E8 K C/\iM K C f/\fs.lookup f=some v/\Q v H1):Ki K ta f σ H Q:=h
theorem Iu {K:FG9} (h:tv σ H λy H1=>ta σ H1 λx H2=>∃a C dx fs,x=.ref a/\H2 a=some (.ins C dx fs)/\E8 K C/\iM K C f/\fs.length < 1000 /\
 D.nx σ (upd H2 a (.ins C dx (bU f y fs)))):L6 K ta tv f D σ H:=h
theorem Iz (h:ta σ H λx H1=>∃a dx fs,x=.ref a/\H1 a=some (.ins C dx fs)/\fs.lookup m=none /\
 t σ H1 λvs H2=>sp (x :: vs) H2 Q E):JF C m sp [] E ta t σ H Q:=by
 have e:(λ(x:V) H1=>∃a dx fs,x=.ref a/\H1 a=some (.ins C dx fs)/\fs.lookup m=none/\t σ H1 λvs H2=>sp (x :: (vs++[])) H2 Q E)=λx H1=>∃a dx fs,x=.ref a/\H1 a=some (.ins C dx fs)/\fs.lookup m=none/\t σ H1 λvs H2=>sp (x :: vs) H2 Q E:=by
  funext x H1;simp only[mQ]
 show ta σ H (λ(x:V) H1=>∃a dx fs,x=.ref a/\H1 a=some (.ins C dx fs)/\fs.lookup m=none/\t σ H1 λvs H2=>sp (x :: (vs++[])) H2 Q E)
 rw[e];exact h
theorem IA (h:t σ H λvs H1=>∀x dx,H1 x=none->H1 dx=none->dx≠x →
 sp (.ref x :: vs) (upd (upd H1 dx (.own x)) x (.ins C dx [])) (λv H2=>v=.non/\Q (.ref x) H2) E):JG C sp [] E t σ H Q:=by
 have e:(λvs (H1:Hp)=>∀x dx,H1 x=none->H1 dx=none->dx≠x->sp (.ref x :: (vs++[])) (upd (upd H1 dx (.own x)) x (.ins C dx [])) (λv H2=>v=.non/\Q (.ref x) H2) E)=λvs H1=>∀x dx,H1 x=none->H1 dx=none->dx≠x->sp (.ref x :: vs) (upd (upd H1 dx (.own x)) x (.ins C dx [])) (λv H2=>v=.non/\Q (.ref x) H2) E:=by
  funext vs H1;simp only[mQ]
 show t σ H (λvs (H1:Hp)=>∀x dx,H1 x=none->H1 dx=none->dx≠x->sp (.ref x :: (vs++[])) (upd (upd H1 dx (.own x)) x (.ins C dx [])) (λv H2=>v=.non/\Q (.ref x) H2) E)
 rw[e];exact h
def zW (x:Addr) (H H':Hp):Prop:=∀b o,H b=some o->b≠x->H' b=some o
theorem zW.upd:zW x H (L2.upd H x o):=λb u h n=>by rw[br n];exact h
def o3 (H:Hp) (x:Addr):Prop:=∃C dx fs,H x=some (.ins C dx fs)
section
variable {K:FG9} {H H' H0:Hp} {q:Rat} {v:V} {x p:Addr} {qs:List Rat} {rows:LR9}
theorem bQ.exc (h:bQ K H q v) (e:zW x H H') (hx:o3 H x):bQ K H' q v:=by
 obtain ⟨C,dx,fs,hx⟩:=hx;obtain ⟨r,er,s⟩:=h;refine ⟨r,er,?_⟩;rcases s with (h | ⟨o,h⟩) | h
 ·exact .inl (.inl (e _ _ h λz=>by rw[z,hx] at h;cases h))
 ·exact .inl (.inr ⟨o,e _ _ h λz=>by rw[z,hx] at h;cases h⟩)
 ·exact .inr h
theorem cx.exc (h:cx K H p qs) (e:zW x H H') (hx:o3 H x):cx K H' p qs:=by
 obtain ⟨xs,g,r⟩:=h;have hx':=hx;obtain ⟨C,dx,fs,hx⟩:=hx;exact ⟨xs,e _ _ g (λz=>by rw[z,hx] at g;cases g),Paired.imp' (λ_ _ z=>z.exc e hx') r⟩
theorem dA.exc (h:dA K H0 H qs v) (e:zW x H H') (hx:o3 H x):dA K H0 H' qs v:=by obtain ⟨q,a,b,c⟩:=h;exact ⟨q,a,b,c.exc e hx⟩
theorem bR.exc (h:bR K H0 H p rows) (e:zW x H H') (hx:o3 H x):bR K H0 H' p rows:=by
 obtain ⟨xs,g,r,n⟩:=h;have hx':=hx;obtain ⟨C,dx,fs,hx⟩:=hx;exact ⟨xs,e _ _ g (λz=>by rw[z,hx] at g;cases g),Paired.imp' (λ_ _ z=>z.exc e hx') r,n⟩
end
def mD (a b c:Addr) (n i o:Nat):List (Str×V):=bU "outs" (.int o) (bU "look" (.ref c) (bU "ins" (.int i) (bU "put" (.ref b) (bU "states" (.int n) (bU "move" (.ref a) [])))))
section
variable {a b c:Addr} {n i o:Nat}
theorem HZ:(mD a b c n i o).lookup ("ins":Str)=some (.int i):=by
 unfold mD;rw[bo,if_neg (by decide +kernel),bo,if_neg (by decide +kernel),bo,if_pos rfl]
theorem CU:(mD a b c n i o).lookup ("put":Str)=some (.ref b):=by
 unfold mD;rw[bo,if_neg (by decide +kernel),bo,if_neg (by decide +kernel),bo,if_neg (by decide +kernel),bo,if_pos rfl]
theorem o8:(mD a b c n i o).lookup ("states":Str)=some (.int n):=by
 unfold mD;rw[bo,if_neg (by decide +kernel),bo,if_neg (by decide +kernel),bo,if_neg (by decide +kernel),bo,if_neg (by decide +kernel),bo,if_pos rfl]
theorem Ae:(mD a b c n i o).lookup ("move":Str)=some (.ref a):=by
 unfold mD;rw[bo,if_neg (by decide +kernel),bo,if_neg (by decide +kernel),bo,if_neg (by decide +kernel),bo,if_neg (by decide +kernel),bo,if_neg (by decide +kernel),bo,if_pos rfl]
theorem Kj {m:Str} (h1:¬m="outs") (h2:¬m="look") (h3:¬m="ins") (h4:¬m="put") (h5:¬m="states") (h6:¬m="move"):(mD a b c n i o).lookup m=none:=by
 unfold mD;rw[bo,if_neg h1,bo,if_neg h2,bo,if_neg h3,bo,if_neg h4,bo,if_neg h5,bo,if_neg h6];rfl
theorem Ei:(mD a b c n i o).lookup ("moved":Str)=none:=Kj (by decide +kernel) (by decide +kernel) (by decide +kernel) (by decide +kernel) (by decide +kernel) (by decide +kernel)
end
theorem dH {k:Str} {v:V}:∀{l:List (Str×V)},(bU k v l).length<=l.length+1
 | []=>av _
 | (x,y) :: r=>by
  unfold bU
  split
  ·simp
  ·have:=dH (k:=k) (v:=v) (l:=r);simp only[bF]
   lia
structure gD (mv pt lk:LR9):Prop where
 n8:mv.length<=8
 i4:pt.length<=4
 o4:lk.length<=4
 mw:∀xs∈mv,xs.length=mv.length
 pw:∀xs∈pt,xs.length=mv.length
 lw:∀xs∈lk,xs.length=mv.length
def yI (mv pt lk:LR9):Prop:=∃M V:Nat,0 < M/\M<=2^800/\V<=2^400/\GF M V mv/\GF M V pt/\GF M V lk
def jZ (K:FG9) (H0 H:Hp) (C p:Addr) (mv pt lk:LR9):Prop:=∃dx a b c,H p=some (.ins C dx (mD a b c mv.length pt.length lk.length))/\H0 a=none/\H0 b=none/\H0 c=none/\bR K H0 H a mv/\bR K H0 H b pt/\bR K H0 H c lk
section
variable {K:FG9} {H H' H0 H1:Hp} {C p b:Addr} {mv pt lk:LR9}
theorem jZ.same (h:jZ K H0 H C p mv pt lk) (e:aH H H'):jZ K H0 H' C p mv pt lk:=by obtain ⟨dx,a,b,c,g,n1,n2,n3,g1,g2,g3⟩:=h;exact ⟨dx,a,b,c,e _ _ g,n1,n2,n3,g1.same e,g2.same e,g3.same e⟩
theorem jZ.upto (h:jZ K H0 H C p mv pt lk) (u:cG b H H') (B:fI H b) (nb:H0 b≠none):jZ K H0 H' C p mv pt lk:=by
 obtain ⟨dx,a,b',c,g,n1,n2,n3,g1,g2,g3⟩:=h;refine ⟨dx,a,b',c,u.other (λz=>by obtain ⟨_,_,_,_,_,e,_⟩:=B;rw[z,e] at g;cases g) g,n1,n2,n3,g1.upto u B (λz=>nb (by rw[<- z];exact n1)) nb,g2.upto u B (λz=>nb (by rw[<- z];exact n2)) nb,g3.upto u B (λz=>nb (by rw[<- z];exact n3)) nb⟩
theorem jZ.weak (h:jZ K H0 H C p mv pt lk) (e:aH H1 H0):jZ K H1 H C p mv pt lk:=by obtain ⟨dx,a,b,c,g,n1,n2,n3,g1,g2,g3⟩:=h;exact ⟨dx,a,b,c,g,e.none n1,e.none n2,e.none n3,g1.weak e,g2.weak e,g3.weak e⟩
theorem yI.fits (h:yI mv pt lk) (hl:∀x∈l,(∃xs∈mv,x∈xs)\/(∃xs∈pt,x∈xs)\/(∃xs∈lk,x∈xs)\/x=0):Fits l:=by
 obtain ⟨M,V,h0,h1,h2,h3,h4,h5⟩:=h;refine ⟨M,V,h0,ai h1 (au (by decide) (by decide)),ai h2 (au (by decide) (by decide)),λx hx=>?_⟩;rcases hl x hx with ⟨xs,a,b⟩ | ⟨xs,a,b⟩ | ⟨xs,a,b⟩ | rfl
 ·exact h3 xs a x b
 ·exact h4 xs a x b
 ·exact h5 xs a x b
 ·exact Fr.zero
end
def Ej:Sp:=λvs H Q _=>∃i:Int,vs=[.int i]/\Q (.bl true) H
def Em (K:FG9):Sp:=λvs H Q _=>∃x n,vs=[x]/\CI K H x n/\Bo n/\∀H',aH H H'->Q (.bl true) H'
inductive C0 (vs:List V) (H:Hp) (Q:VK) (E9:XK):Prop
 | mk (p:Addr) (xs:List V) (a m:Int):vs=[.ref p,.int a,.int m]->H p=some (.lst xs)->(xs.length:Int)<=m->Q .non H->C0  vs H Q E9
inductive C8 (K:FG9) (vs:List V) (H:Hp) (Q:VK) (E9:XK):Prop
 | mk (p:Addr) (H0:Hp) (rows:LR9) (w:Nat):vs=[.ref p,.int w]->bR K H0 H p rows->rows.length<=1000->w<=1000->((∀xs∈rows,xs.length=w/\∀x∈xs,Bo (nm x)))->(∀r H',H r=none->aH H H'->bR K H H' r rows->Q (.ref r) H')->C8 K vs H Q E9
def LA (rows:LR9):Prop:=∀xs∈rows,∀x∈xs,Bo (nm x)
inductive C3 (K:FG9) (C:Addr) (vs:List V) (H:Hp) (Q:VK) (E9:XK):Prop
 | mk (x dx p q r:Addr) (Hb H0 H1 H2:Hp) (mv pt lk:LR9):vs=[.ref x,.ref p,.ref q,.ref r]->Hb x=none->Hb dx=none->dx≠x->H=upd (upd Hb dx (.own x)) x (.ins C dx [])->bR K H0 Hb p mv->bR K H1 Hb q pt->bR K H2 Hb r lk->gD mv pt lk->LA mv->LA pt->LA lk->(∀H',aH Hb H'->jZ K Hb H' C x mv pt lk->Q .non H')->C3 K C vs H Q E9
def fD (mv pt:LR9) (st pu:List Rat):List Rat:=List.zipWith (λline col=>bI (line++col) (st++pu)) mv (cJ pt mv.length)
theorem yI.ok (h:yI mv pt lk):LA mv/\LA pt/\LA lk :=
 ⟨λxs hx x hx'=>(h.fits (l:=xs) λy hy=>.inl ⟨xs,hx,hy⟩).ok hx',λxs hx x hx'=>(h.fits (l:=xs) λy hy=>.inr (.inl ⟨xs,hx,hy⟩)).ok hx',λxs hx x hx'=>(h.fits (l:=xs) λy hy=>.inr (.inr (.inl ⟨xs,hx,hy⟩))).ok hx'⟩
def eK (K:FG9) (A:Addr->Prop) (H:Hp) (n:Nat) (C:Rat->Prop) (x:V):Prop:=∃q qs,x=V.ref q/\A q/\cx K H q qs/\qs.length=n/\∀y∈qs,C y
section
variable {K:FG9} {A A':Addr->Prop} {H H' H0:Hp} {n:Nat} {C C':Rat->Prop} {x v:V} {q b l p:Addr} {xs zs:List V} {y:Rat} {o:HO}
theorem eK.same (h:eK K A H n C x) (e:aH H H'):eK K A H' n C x:=by obtain ⟨q,qs,a,c,r,z⟩:=h;exact ⟨q,qs,a,c,r.same e,z⟩
theorem eK.upto (h:eK K A H n C x) (u:cG b H H') (B:fI H b) (nb:¬A b):eK K A H' n C x:=by obtain ⟨q,qs,a,c,r,z⟩:=h;exact ⟨q,qs,a,c,r.upto u B (λe=>nb (by rw[<- e];exact c)),z⟩
theorem eK.other (h:eK K A H n C x) (hl:H l=some (.lst zs)) (nl:¬A l):eK K A (upd H l o) n C x:=by obtain ⟨q,qs,a,c,r,z⟩:=h;exact ⟨q,qs,a,c,r.updL hl (λe=>nl (by rw[<- e];exact c)),z⟩
theorem eK.weak (h:eK K A H n C x) (w:∀q,A q->A' q) (wc:∀y,C y->C' y):eK K A' H n C' x:=by obtain ⟨q,qs,a,c,r,l,z⟩:=h;exact ⟨q,qs,a,w q c,r,l,λy hy=>wc y (z y hy)⟩
theorem vT {α β:Type} {F:α->β->Prop} {a:α} {b:β} (h:F a b):∀{l1:List α} {l2:List β} (j:Nat),Paired F l1 l2->Paired F (l1.set j a) (l2.set j b)
 | _,_,_,.nil=>.nil
 | _,_,0,.cons _ t=>.cons h t
 | _,_,j+1,.cons r t=>.cons r (vT h j t)
theorem eK.put (h:eK K A H n C x) (hq:H q=some (.lst zs)) (hv:bQ K H y v) (hc:C y) (j:Nat):eK K A (upd H q (.lst (zs.set j v))) n C x:=by
 obtain ⟨q1,qs,rfl,a,⟨zs1,g1,pr⟩,l1,c1⟩:=h;by_cases e:q1=q
 ·subst e;rw[hq] at g1;cases g1;refine ⟨q1,qs.set j y,rfl,a,⟨_,aJ,vT (hv.updL hq) j (Paired.imp' (λ_ _ z=>z.updL hq) pr)⟩,by rw[dM];exact l1,λz hz=>?_⟩;rcases bZ hz with hz | rfl
  ·exact c1 z hz
  ·exact hc
 ·exact ⟨q1,qs,rfl,a,⟨zs1,by rw[br e];exact g1,Paired.imp' (λ_ _ z=>z.updL hq) pr⟩,l1,c1⟩
theorem eK.at (h:eK K A H n C x):∃q zs qs,x=V.ref q/\A q/\H q=some (.lst zs)/\zs.length=n/\Paired (bQ K H) qs zs/\qs.length=n/\∀y∈qs,C y:=by obtain ⟨q,qs,a,c,⟨zs,g,pr⟩,l,z⟩:=h;exact ⟨q,zs,qs,a,c,g,by rw[<- pr.length];exact l,pr,l,z⟩
end
theorem nR {i:Int} (h:i.natAbs<=W) (hW:1<=W):Dr W (i:Rat):=⟨h,hW⟩
def MD (K:FG9) (A:Addr->Prop) (H:Hp) (n:Nat) (C:Rat->Prop) (p:Addr) (m:Nat):Prop:=∃us,H p=some (.lst us)/\us.length=m/\¬A p/\∀x∈us,eK K A H n C x
structure Bp (A:Addr->Prop) (m p l b q0:Addr):Prop where
 am:¬A m
 ap:¬A p
 al:¬A l
 ab:¬A b
 aq:¬A q0
 mb:m≠b
 pb:p≠b
 lb:l≠b
 mp:m≠p
 ml:m≠l
 mq:m≠q0
theorem DF {M:Nat} {z:Int} (h:z.natAbs<=2):Fr 1 2 (z:Rat):=Fr.int h
theorem zG {z:Int} (hz:z.natAbs<=2) (ha:Fr M W a) (hc:Fr M W c):Fr M (3*W) (a+(z:Rat)*c):=by
 have h:=(DF (M:=M) hz).mul hc;rw[mK] at h;exact (ha.add h).mono (by lia)
theorem yS {z:Int} (h:z.natAbs<=1000):gL (z:Rat):=Cu (M:=1) (V:=1000) (by decide) (cn) (ai (show 1000<=2^10 by decide) (au (by decide) (by decide))) (Fr.int h)
theorem vh {z:Int} (hz:z.natAbs<=2) (hc:Fr M W c) (h0:0 < M) (h1:M<=2^800) (hW:W<=2^140):gL ((z:Rat)*c):=by
 have h:=(DF (M:=M) hz).mul hc;rw[mK] at h;refine Cu h0 (ai h1 (au (by decide) (by decide))) (ai (aM 2 hW) ?_) h;rw[show 2*2^140=2^141 by rw[jh,cH]];exact au (by decide) (by decide)
def fZ (A:Addr->Prop) (b m:Addr) (H H':Hp):Prop:=∀c u,H c=some u->c≠b->¬A c->c≠m->H' c=some u
theorem fZ.same (h:fZ A b m H H1) (s:aH H1 H2):fZ A b m H H2:=λc u e n1 n2 n3=>s _ _ (h c u e n1 n2 n3)
theorem fZ.upto (h:fZ A b m H H1) (s:cG b H1 H2):fZ A b m H H2:=λc u e n1 n2 n3=>s.1 _ _ (h c u e n1 n2 n3) n1
theorem fZ.upd (h:fZ A b m H H1) (hq:A q\/q=m):fZ A b m H (L2.upd H1 q o):=λc u e n1 n2 n3=>by
 rw[br]
 ·exact h c u e n1 n2 n3
 ·rintro rfl;rcases hq with hq | hq
  ·exact n2 hq
  ·exact n3 hq
theorem fZ.new (h:fZ A b m H H1) (hA:∀q,H q=none->A q) (B:fI H1 b) (hm:H1 m≠none) (hr:H1 r=none):A r:=by
 by_cases z:A r
 ·exact z
 ·cases e:H r with
  | none=>exact hA r e
  | some u =>
   have:=h r u e (λy=>B.at (by rw[<- y];exact hr)) z (λy=>hm (by rw[<- y];exact hr));rw[hr] at this;cases this
structure D5 (K:FG9) (A:Addr->Prop) (n:Nat) (C:Rat->Prop) (r p b q0:Addr) (us:List V) (H0 H:Hp):Prop where
 gr:H r=some (.lst us)
 ru:∀x∈us,eK K A H n C x
 rp:eK K A H n C (.ref p)
 bag:fI H b
 inn:Inner H b q0
 up:cG b H0 H
section
variable {K:FG9} {A:Addr->Prop} {n:Nat} {C:Rat->Prop} {r p b q0:Addr} {us:List V} {H0 H H':Hp} {y:Rat} {v:V}
theorem D5.same (h:D5 K A n C r p b q0 us H0 H) (e:aH H H'):D5 K A n C r p b q0 us H0 H':=⟨e _ _ h.gr,λx hx=>(h.ru x hx).same e,h.rp.same e,h.bag.same e,(e.upto (p:=b)).2 _ h.inn,h.up.same e⟩
theorem D5.upto (h:D5 K A n C r p b q0 us H0 H) (u:cG b H H') (B:fI H' b) (nb:¬A b) (rb:r≠b):D5 K A n C r p b q0 us H0 H':=⟨u.other rb h.gr,λx hx=>(h.ru x hx).upto u h.bag nb,h.rp.upto u h.bag nb,B,u.2 _ h.inn,h.up.trans u⟩
theorem D5.put (h:D5 K A n C r p b q0 us H0 H) (ap:A p) (nr:¬A r) (nb:¬A b) (nq:¬A q0) (hp:H0 p=none) (hv:bQ K H y v) (hc:C y) (j:Nat):∃zs,H p=some (.lst zs)/\zs.length=n/\D5 K A n C r p b q0 us H0 (upd H p (.lst (zs.set j v))):=by
 obtain ⟨q,zs,qs,e,a,g,l,_⟩:=h.rp.at;cases e;have ne:∀{z},¬A z->z≠p:=λh e=>h (by rw[e];exact ap)
 exact ⟨zs,g,l,by rw[br (ne nr)];exact h.gr,λx hx=>(h.ru x hx).put g hv hc j,h.rp.put g hv hc j,h.bag.upd h.inn (ne nb).symm (ne nq).symm,h.inn.upd (ne nb).symm,h.up.after hp⟩
end
theorem vM {K:FG9} (h:∀x∈us,eK K A H n C x):∃rows:LR9,Paired (λqs x=>∃q,x=V.ref q/\A q/\cx K H q qs) rows us/\rows.length=us.length/\∀qs∈rows,qs.length=n/\∀y∈qs,C y:=by
 induction us with
 | nil=>exact ⟨[],.nil,rfl,λ_ z=>nomatch z⟩
 | cons u us ih =>
  obtain ⟨rows,pr,l,hr⟩:=ih λx hx=>h x (.tail _ hx)
  obtain ⟨q,qs,e,a,r,l1,c⟩:=h u (.head _);refine ⟨qs :: rows,.cons ⟨q,e,a,r⟩ pr,by simp [l],λzs hz=>?_⟩;rcases aA.mp hz with rfl | hz
  ·exact ⟨l1,c⟩
  ·exact hr zs hz
theorem BR {K:FG9} {rows:LR9} (pr:Paired (λqs x=>∃q,x=V.ref q/\A q/\cx K H q qs) rows us) (h:∀qs∈rows,qs.length=n/\∀y∈qs,C y):∀x∈us,eK K A H n C x:=λx hx=>by
 obtain ⟨qs,hq,q,e,a,r⟩:=cP pr hx;exact ⟨q,qs,e,a,r,(h qs hq).1,(h qs hq).2⟩
theorem oC {n:Nat}:∀{rows:LR9},(∀xs∈rows,xs.length=n)->rows.flatten.length=rows.length*n
 | [],_=>by simp
 | xs :: rows,h=>by
  rw[eo,ax,h xs (.head _),oC λys hy=>h ys (.tail _ hy),bF,fG,Ea]
theorem Ip {rows:LR9} (h:∀qs∈rows,qs.length=n/\∀y∈qs,Dr (2^c) y):∃M:Nat,0 < M/\M<=2^(c*(rows.length*n))/\∀qs∈rows,∀y∈qs,Fr M (2^c) y:=by
 have fl:rows.flatten.length=rows.length*n:=oC λys hy=>(h ys hy).1
 have hm:∀a∈rows.flatten.map (·.den),0 < a/\a<=2^c:=λa ha=>by
  obtain ⟨y,hy,rfl⟩:=ay.mp ha;obtain ⟨qs,hq,hy⟩:=dQ.mp hy;exact ⟨y.den_pos,((h qs hq).2 y hy).2⟩
 refine ⟨p7 (rows.flatten.map (·.den)),rV λa ha=>(hm a ha).1,?_,λqs hq y hy=>?_⟩
 ·have:=vP (k:=c) (l:=rows.flatten.map (·.den)) λa ha=>(hm a ha).2
  rwa [ak,fl] at this
 ·exact (Fr.own y ((h qs hq).2 y hy).1).dvd (rW (ay.mpr ⟨y,dQ.mpr ⟨qs,hq,hy⟩,rfl⟩))
theorem i8 {K:FG9} (h:MD K A H n C p m) (w:∀q,A q->H0 q=none):∃rows,bR K H0 H p rows/\rows.length=m/\∀qs∈rows,qs.length=n/\∀y∈qs,C y:=by
 obtain ⟨us,g,l,a,r⟩:=h;obtain ⟨rows,pr,lr,hr⟩:=vM r;refine ⟨rows,⟨us,g,Paired.imp' (λ_ _ ⟨q,e,aq,rq⟩=>⟨q,e,w q aq,rq⟩) pr,λhm=>?_⟩,by rw[lr,l],hr⟩;obtain ⟨q,_,e,aq,_⟩:=r _ hm;cases e;exact a aq
theorem fZ.trans (h:fZ A b m H H1) (h':fZ A b m H1 H2):fZ A b m H H2:=λc u e n1 n2 n3=>h' c u (h c u e n1 n2 n3) n1 n2 n3
theorem FC {K:FG9} {rows:LR9} (pr:Paired (dA K H0 H) rows us) (h:∀qs∈rows,qs.length=n/\∀y∈qs,C y) (w:∀q,V.ref q∈us->H0 q=none->H q≠none->A q):∀x∈us,eK K A H n C x:=λx hx=>by
 obtain ⟨qs,hq,q,e,a,r⟩:=cP pr hx;subst e;exact ⟨q,qs,rfl,w q hx a (by obtain ⟨_,g,_⟩:=r;rw[g];simp),r,(h qs hq).1,(h qs hq).2⟩
def Ek:Sp:=λvs H Q _=>∃b,vs=[.ref b]/\fI H b/\∀r (n i o w:Nat) H',H' r=some (.tup [.int n,.int i,.int o,.int w])->n<=5->i<=4->o<=4->(w=4\/w=9\/(w=1000000/\n<=2))->(n=5->i<=2/\o<=2)->fI H' b->cG b H H'->Q (.ref r) H'
def fu (K:FG9) (H0 H:Hp) (r:Addr) (mv pt lk:LR9):Prop:=∃m p l,H r=some (.tup [.ref m,.ref p,.ref l])/\H0 m=none/\H0 p=none/\H0 l=none/\bR K H0 H m mv/\bR K H0 H p pt/\bR K H0 H l lk
section
variable {K:FG9} {H H' H0 H1:Hp} {r b:Addr} {mv pt lk:LR9}
theorem fu.same (h:fu K H0 H r mv pt lk) (e:aH H H'):fu K H0 H' r mv pt lk:=by obtain ⟨m,p,l,g,n1,n2,n3,g1,g2,g3⟩:=h;exact ⟨m,p,l,e _ _ g,n1,n2,n3,g1.same e,g2.same e,g3.same e⟩
theorem fu.upto (h:fu K H0 H r mv pt lk) (u:cG b H H') (B:fI H b) (nb:H0 b≠none):fu K H0 H' r mv pt lk:=by
 obtain ⟨m,p,l,g,n1,n2,n3,g1,g2,g3⟩:=h;exact ⟨m,p,l,u.tup B g,n1,n2,n3,g1.upto u B (λz=>nb (by rw[<- z];exact n1)) nb,g2.upto u B (λz=>nb (by rw[<- z];exact n2)) nb,g3.upto u B (λz=>nb (by rw[<- z];exact n3)) nb⟩
theorem fu.weak (h:fu K H0 H r mv pt lk) (e:∀q,H0 q=none->H1 q=none):fu K H1 H r mv pt lk:=by
 obtain ⟨m,p,l,g,n1,n2,n3,⟨x1,y1,z1,w1⟩,⟨x2,y2,z2,w2⟩,⟨x3,y3,z3,w3⟩⟩:=h;exact ⟨m,p,l,g,e _ n1,e _ n2,e _ n3,⟨x1,y1,Paired.imp' (λ_ _ ⟨q,a,b,c⟩=>⟨q,a,e _ b,c⟩) z1,w1⟩,⟨x2,y2,Paired.imp' (λ_ _ ⟨q,a,b,c⟩=>⟨q,a,e _ b,c⟩) z2,w2⟩,⟨x3,y3,Paired.imp' (λ_ _ ⟨q,a,b,c⟩=>⟨q,a,e _ b,c⟩) z3,w3⟩⟩
end
inductive vm (K:FG9) (C:Addr) (vs:List V) (H:Hp) (Q:VK) (E9:XK):Prop
 | mk (r:Addr) (H0:Hp) (mv pt lk:LR9):vs=[.ref r]->fu K H0 H r mv pt lk->gD mv pt lk->yI mv pt lk->(∀x H',H x=none->aH H H'->jZ K H H' C x mv pt lk->Q (.ref x) H')->vm K C vs H Q E9
def nextK (mv pt:LR9) (st pu:List Rat) (k:Nat):List Rat:=List.zipWith (λline col=>bI (line++col.take k) (st++pu.take k)) mv (cJ pt mv.length)
theorem hJ {st pu:List Rat}:(nextK mv pt st pu k).length=mv.length:=by unfold nextK;rw[bg,cZ];lia
theorem ox {st pu:List Rat} (h1:pt.length<=k) (h2:pu.length<=k):nextK mv pt st pu k=fD mv pt st pu:=by
 unfold nextK fD;apply iO;intro i;rw[bx,bx];cases e1:mv[i]? with
 | none=>rfl
 | some line =>
  cases e2:(cJ pt mv.length)[i]? with
  | none=>rfl
  | some col =>
   have:=iQ col (ar e2);show some _=some _
   rw[aD (by lia),aD h2]
theorem CS (h:i < w):(cJ rows w)[i]?=some (rows.map λxs=>xs.getD i 0):=by
 unfold cJ;rw[aB,cO h];rfl
theorem Cf {st pu:List Rat}:nextK mv pt st pu 0=mv.map λxs=>bI xs st:=by
 unfold nextK;apply iO;intro i;rw[bx,aB];by_cases hi:i < mv.length
 ·rw[CS hi,af hi];simp
 ·rw[aW (by lia)];rfl
theorem v8 {st pu:List Rat} (hi:i < mv.length):(nextK mv pt st pu k).getD i 0=bI (mv[i]++(pt.map λxs=>xs.getD i 0).take k) (st++pu.take k):=by
 rw[aa];unfold nextK;rw[bx,af hi,CS hi];rfl
theorem nV (h:as.length=xs.length):bI (as++bs) (xs++ys)=bI as xs+bI bs ys:=by
 unfold bI;rw[List.zipWith_append h,List.sum_append]
theorem Cg {st pu:List Rat} (hm:∀xs∈mv,xs.length=st.length) (h1:k < pt.length) (h2:k < pu.length) (hw:(pt[k]).length=mv.length) :
  List.zipWith (λx y=>x+y) (nextK mv pt st pu k) ((pt[k]).map λy=>pu[k]*y)=nextK mv pt st pu (k+1):=by
 have l1:((pt[k]).map λy=>pu[k]*y).length=mv.length:=by rw[ak,hw]
 rw[xJ (by rw[l1,hJ])];apply iO;intro i;rw[aB,hJ];by_cases hi:i < mv.length
 ·have e0:(nextK mv pt st pu (k+1))[i]?=some ((nextK mv pt st pu (k+1)).getD i 0):=by
   rw[aa,af (by rw[hJ];exact hi)];rfl
  rw[cO hi,e0,v8 hi];have ll:=hm mv[i] (aK hi);have ec:(pt.map λxs=>xs.getD i 0)[k]?=some ((pt[k]).getD i 0):=by rw[aB,af h1];rfl
  have ep:pu[k]?=some pu[k]:=af h2
  have e3:((pt[k]).map λy=>pu[k]*y).getD i 0=pu[k]*(pt[k]).getD i 0:=by
   rw[getD_map (by rw[hw];exact hi),aa,af (by rw[hw];exact hi)];rfl
  show some ((nextK mv pt st pu k).getD i 0+((pt[k]).map λy=>pu[k]*y).getD i 0)=some _
  rw[v8 hi,e3,take_snoc ec,take_snoc ep,nV ll,nV ll,nV (by rw[bX,bX,ak];lia)];have:bI [(pt[k]).getD i 0] [pu[k]]=(pt[k]).getD i 0*pu[k]:=by simp [bI,va]
  rw[this];congr 1;grind
 ·rw[aW (by simpa using hi),aW (by rw[hJ];lia)];rfl
theorem jZ.weakN {K:FG9} (h:jZ K H0 H C p mv pt lk) (e:∀q,H0 q=none->H1 q=none):jZ K H1 H C p mv pt lk:=by
 obtain ⟨dx,a,b,c,g,n1,n2,n3,⟨x1,y1,z1,w1⟩,⟨x2,y2,z2,w2⟩,⟨x3,y3,z3,w3⟩⟩:=h;exact ⟨dx,a,b,c,g,e _ n1,e _ n2,e _ n3,⟨x1,y1,Paired.imp' (λ_ _ ⟨q,a,b,c⟩=>⟨q,a,e _ b,c⟩) z1,w1⟩,⟨x2,y2,Paired.imp' (λ_ _ ⟨q,a,b,c⟩=>⟨q,a,e _ b,c⟩) z2,w2⟩,⟨x3,y3,Paired.imp' (λ_ _ ⟨q,a,b,c⟩=>⟨q,a,e _ b,c⟩) z3,w3⟩⟩
theorem EL {st pu:List Rat}:(fD mv pt st pu).length=mv.length:=by unfold fD;rw[bg,cZ];lia
def mC (k j:Nat) (l:List Rat):Prop:=∃M V:Nat,0 < M/\M<=2^k/\V<=2^j/\∀x∈l,Fr M V x
theorem Jk {M V:Nat} (h0:0 < M) (h1:M<=2^2000) (h2:V<=2^1950) (h:Fr M V x):gL x:=by
 obtain ⟨a,b⟩:=h.sz h0 h1 h2;exact ⟨a.mono (by decide),b.mono (by decide)⟩
section
variable {k j k' j':Nat} {l xs ys:List Rat} {x y:Rat}
theorem mC.szn (h:mC k j l) (hx:x∈l) (hk:k+j<=3950:=by decide):gL x:=by
 obtain ⟨M,V,h0,h1,h2,h3⟩:=h;obtain ⟨a,b⟩:=(h3 x hx).sz h0 h1 h2;exact ⟨a.mono (by lia),b.mono (by lia)⟩
theorem mC.rowM (h:mC k j l) (hk:k+j<=4200:=by decide):∃M,Bn M (l.map nm):=by
 obtain ⟨M,V,h0,h1,h2,h3⟩:=h;refine ⟨M,by lia,?_,λn hn=>?_⟩
 ·show ((M:Nat):Int).natAbs < 2^4400
  rw[cF];exact be h1 (cU (by decide) (by lia))
 ·obtain ⟨x,hx,rfl⟩:=ay.mp hn;obtain ⟨a,_⟩:=(h3 x hx).sz h0 h1 h2;exact ⟨gA x,(h3 x hx).den,a.mono (by lia)⟩
theorem mC.one (h:mC k j l) (hx:x∈l):mC k j [x]:=by
 obtain ⟨M,V,h0,h1,h2,h3⟩:=h;exact ⟨M,V,h0,h1,h2,λy hy=>by rw[cp.mp hy];exact h3 x hx⟩
theorem Gz (h:mC k j xs) (h':mC k' j' ys) (hl:xs.length<=1000) (i:Nat) (hk:(k+k')+(j+j')<=3930:=by decide):gL (bI (xs.take i) (ys.take i)):=by
 obtain ⟨M,V,h0,h1,h2,h3⟩:=h;obtain ⟨N,W,k0,k1,k2,k3⟩:=h'
 have e:1000*(V*W)<=2^(10+(j+j')):=by
  rw[aE 2 10];exact aF (by decide) (ai (aF h2 k2) (by rw[<- aE];exact av _))
 obtain ⟨a,b⟩:=((Fr.dot (λx hx=>h3 x (bS hx)) (λy hy=>k3 y (bS hy))).mono (aG _ (show (xs.take i).length<=1000 by rw[bX];lia))).sz (bN h0 k0) (ai (aF h1 k1) (by rw[<- aE];exact av _)) e;exact ⟨a.mono (by lia),b.mono (by lia)⟩
theorem FX (hx:mC k j [x]) (hy:mC k' j' [y]) (hk:(k+k')+(j+j')<=3930:=by decide):gL (x*y):=by
 obtain ⟨M,V,h0,h1,h2,h3⟩:=hx;obtain ⟨N,W,k0,k1,k2,k3⟩:=hy;obtain ⟨a,b⟩:=((h3 x (.head _)).mul (k3 y (.head _))).sz (bN h0 k0) (ai (aF h1 k1) (by rw[<- aE];exact av _)) (ai (aF h2 k2) (by rw[<- aE];exact av _));exact ⟨a.mono (by lia),b.mono (by lia)⟩
def CJ (xs ys:List Rat):Prop:=∃k j k' j':Nat,mC k j xs/\mC k' j' ys/\(k+k')+(j+j')<=3930
theorem CJ.sys (h:mC 400 120 xs) (h':mC 1500 1800 ys):CJ xs ys:=⟨_,_,_,_,h,h',by decide⟩
end
def E7 (mv pt lk:LR9):Prop:=∃M V:Nat,0 < M/\M<=2^400/\V<=2^120/\GF M V mv/\GF M V pt/\GF M V lk
section
variable {mv pt lk:LR9}
theorem E7.fits (h:E7 mv pt lk) (hl:∀x∈l,(∃xs∈mv,x∈xs)\/(∃xs∈pt,x∈xs)\/(∃xs∈lk,x∈xs)\/x=0):mC 400 120 l:=by
 obtain ⟨M,V,h0,h1,h2,g1,g2,g3⟩:=h;refine ⟨M,V,h0,h1,h2,λx hx=>?_⟩;rcases hl x hx with ⟨xs,a,b⟩ | ⟨xs,a,b⟩ | ⟨xs,a,b⟩ | rfl
 ·exact g1 xs a x b
 ·exact g2 xs a x b
 ·exact g3 xs a x b
 ·exact Fr.zero
theorem E7.sf (h:E7 mv pt lk):yI mv pt lk:=by obtain ⟨M,V,a,b,c,d⟩:=h;exact ⟨M,V,a,ai b (au (by decide) (by decide)),ai c (au (by decide) (by decide)),d⟩
end
inductive yU (K:FG9) (vs:List V) (H:Hp) (Q:VK) (E9:XK):Prop
 | mk (p q:Addr) (xs ys:List Rat):vs=[.ref p,.ref q]->cx K H p xs->cx K H q ys->ys.length=xs.length->xs.length<=1000->CJ xs ys->(∀r H',aH H H'->bQ K H' (bI xs ys) (.ref r)->Q (.ref r) H')->yU K vs H Q E9
inductive yT (K:FG9) (vs:List V) (H:Hp) (Q:VK) (E9:XK):Prop
 | mk (p q:Addr) (H0:Hp) (rows:LR9) (ys:List Rat):vs=[.ref p,.ref q]->bR K H0 H p rows->cx K H q ys->rows.length<=1000->ys.length<=1000->((∀xs∈rows,xs.length=ys.length/\CJ xs ys))->(∀r H',H r=none->aH H H'->cx K H' r (rows.map λxs=>bI xs ys)->Q (.ref r) H')->yT K vs H Q E9
inductive xU (K:FG9) (C:Addr) (vs:List V) (H:Hp) (Q:VK) (E9:XK):Prop
 | mk (x p q:Addr) (H0:Hp) (mv pt lk:LR9) (st pu:List Rat):vs=[.ref x,.ref p,.ref q]->jZ K H0 H C x mv pt lk->gD mv pt lk->E7 mv pt lk->cx K H p st->cx K H q pu->st.length=mv.length->pu.length=pt.length->mC 1500 1800 (st++pu)->(∀r H',H r=none->aH H H'->cx K H' r (fD mv pt st pu)->Q (.ref r) H')->xU K C vs H Q E9
def oG (mv pt:LR9) (st:List Rat) (pus:LR9) (k:Nat):List Rat:=(pus.take k).foldl (fD mv pt) st
def kf (mv pt:LR9) (st:List Rat) (pus:LR9):LR9:=(List.range (pus.length+1)).map (oG mv pt st pus)
section
variable {mv pt lk pus:LR9} {st:List Rat} {k:Nat}
theorem mU (h:pus[k]?=some pu):oG mv pt st pus (k+1)=fD mv pt (oG mv pt st pus k) pu:=by
 unfold oG;rw[take_snoc h,List.foldl_append];rfl
theorem j6 (h:st.length=mv.length):∀{k:Nat},k<=pus.length->(oG mv pt st pus k).length=mv.length
 | 0,_=>h
 | k+1,hk=>by rw[mU (af (show k < pus.length by lia)),EL]
theorem pS:(kf mv pt st pus).length=pus.length+1:=by unfold kf;rw[ak,cm]
theorem oE (h:k<=pus.length):(kf mv pt st pus)[k]?=some (oG mv pt st pus k):=by
 unfold kf;rw[aB,cO (by lia)];rfl
def Br (mv pt:LR9) (st:List Rat) (pus:LR9):Prop:=∀k,k<=pus.length->∃N W:Nat,0 < N/\N<=2^1500/\W<=2^1800/\(∀x∈oG mv pt st pus k,Fr N W x)/\∀xs∈pus,∀x∈xs,Fr N W x
theorem Br.both (h:Br mv pt st pus) (hk:k<=pus.length) (hp:pu∈pus):mC 1500 1800 (oG mv pt st pus k++pu):=by
 obtain ⟨N,W,a,b,c,d,e⟩:=h k hk;exact ⟨N,W,a,b,c,λx hx=>(az.mp hx).elim (d x) (e pu hp x)⟩
theorem Br.state (h:Br mv pt st pus) (hk:k<=pus.length):mC 1500 1800 (oG mv pt st pus k):=by
 obtain ⟨N,W,a,b,c,d,e⟩:=h k hk;exact ⟨N,W,a,b,c,d⟩
end
def tE (K:FG9) (H:Hp) (l:Addr) (H':Hp) (xs:List Rat) (x:V):Prop:=∃q,x=.ref q/\H q=none/\q≠l/\cx K H' q xs
section
variable {K:FG9} {H H' H2:Hp} {l:Addr} {xs:List Rat} {x:V}
theorem tE.same (h:tE K H l H' xs x) (e:aH H' H2):tE K H l H2 xs x:=by obtain ⟨q,a,b,c,d⟩:=h;exact ⟨q,a,b,c,d.same e⟩
theorem tE.upd {ys:List V} {o:HO} (h:tE K H l H' xs x) (hl:H' l=some (.lst ys)):tE K H l (upd H' l o) xs x:=by obtain ⟨q,a,b,c,d⟩:=h;exact ⟨q,a,b,c,d.updL hl c⟩
theorem tE.rowF (h:tE K H l H' xs x):dA K H H' xs x:=by obtain ⟨q,a,b,_,d⟩:=h;exact ⟨q,a,b,d⟩
theorem Er (e:aH H H') (n:H l=none):aH H (upd H' l o):=λb u h=>by
 rw[br (λz=>by rw[z,n] at h;cases h)];exact e b u h
theorem vN:∀{rows:LR9} {ys:List V},Paired (tE K H l H') rows ys->V.ref l∉ys
 | _,_,.nil=>by simp
 | _,_,.cons ⟨q,a,_,c,_⟩ r=>by
  intro hm;rcases aA.mp hm with e | hm
  ·rw[a] at e;cases e;exact c rfl
  ·exact vN r hm
end
inductive vw (K:FG9) (C:Addr) (vs:List V) (H:Hp) (Q:VK) (E9:XK):Prop
 | mk (x s p:Addr) (H0 H1:Hp) (mv pt lk pus:LR9) (st:List Rat):vs=[.ref x,.ref s,.ref p]->jZ K H0 H C x mv pt lk->gD mv pt lk->E7 mv pt lk->cx K H s st->st.length=mv.length->bR K H1 H p pus->pus.length<=100->(∀xs∈pus,xs.length=pt.length)->Br mv pt st pus->(∀r H',H r=none->aH H H'->bR K H H' r (kf mv pt st pus)->Q (.ref r) H')->vw K C vs H Q E9
theorem yl {l:List Rat} (h:∀x∈l,Dr (2^c) x) (hc:c<=20):∃B:Nat,0 < B/\B<=2^(c*l.length+2)/\∀x∈l,Fr B (2^22) x:=by
 obtain ⟨M,h0,h1,h2⟩:=Ji (c:=c) (n:=l.length) (i:=0) (rows:=[]) Lc rfl h hc;refine ⟨M,h0,?_,h2 l (by simp)⟩;rw[Nat.zero_add,mK] at h1;exact h1
theorem AW {i:Nat}:∀{pus:LR9},(∀xs∈pus,xs.length=i)->pus.flatten.length=pus.length*i
 | [],_=>by simp
 | x :: r,h=>by
  rw[eo,ax,h x (.head _),AW (λxs hx=>h xs (.tail _ hx)),bF,fG]
  lia
theorem LY {i:Int} (h:i=0\/i=1):Fr 1 1 (i:Rat):=Fr.int (by rcases h with rfl | rfl <;> decide)
end L2
namespace L2
abbrev fY:=Nat->Rat
def xm (F:List fY->Rat) (r:Nat):List fY->List fY->Rat->Rat
 | _,[],_=>0
 | pre,v :: post,s=>s*v r*F (pre++post)+xm F r (pre++[v]) post (-s)
def iP:List Nat->List fY->Rat
 | [],[]=>1
 | [],_ :: _=>0
 | r :: rs,vs=>xm (λws=>iP rs ws) r [] vs 1
theorem zK:iP [] (a++x :: b)=0:=by
 cases a <;> rfl
theorem zB {F:List fY->Rat} {r:Nat} {f g h:fY} {x y:Rat} (hF:∀a b,F (a++h :: b)=x*F (a++f :: b)+y*F (a++g :: b)):∀(b p q:List fY) (s:Rat),xm F r (p++h :: q) b s=x*xm F r (p++f :: q) b s+y*xm F r (p++g :: q) b s
 | [],p,q,s=>by simp only[xm,gM,va]
 | v :: b,p,q,s=>by
  have i1:=hF p (q++b);have i2:=zB (r:=r) hF b p (q++[v]) (-s);simp only[xm,cD,dR] at i1 i2 ⊢;rw[i1,i2];grind
theorem Dv {F:List fY->Rat} {r:Nat} {f g h:fY} {x y:Rat} (hF:∀a b,F (a++h :: b)=x*F (a++f :: b)+y*F (a++g :: b)) (hr:h r=x*f r+y*g r):∀(a pre b:List fY) (s:Rat),xm F r pre (a++h :: b) s=x*xm F r pre (a++f :: b) s+y*xm F r pre (a++g :: b) s
 | [],pre,b,s=>by
  have i2:=zB (r:=r) hF b pre [] (-s);simp only[xm,cM] at i2 ⊢;rw[i2,hr];grind
 | v :: a,pre,b,s=>by
  have i1:=hF (pre++a) b;have i2:=Dv hF hr a (pre++[v]) b (-s);simp only[xm,cD,dR] at i1 i2 ⊢;rw[i1,i2];grind
theorem nQ {f g h:fY} {x y:Rat}:∀{rs:List Nat},(∀r∈rs,h r=x*f r+y*g r)->∀a b,iP rs (a++h :: b)=x*iP rs (a++f :: b)+y*iP rs (a++g :: b)
 | [],_,a,b=>by rw[zK,zK,zK];grind
 | r :: rs,hr,a,b=>Dv (λa b=>nQ (λr' h'=>hr r' (.tail _ h')) a b) (hr r (.head _)) a [] b 1
theorem Gx (hr:∀r∈rs,h r=f r) (a b:List fY):iP rs (a++h :: b)=iP rs (a++f :: b):=by
 rw[nQ (f:=f) (g:=f) (x:=1) (y:=0) (λr h'=>by rw[hr r h'];grind) a b];grind
theorem DH (hr:∀r∈rs,h r=0) (a b:List fY):iP rs (a++h :: b)=0:=by
 rw[nQ (f:=h) (g:=h) (x:=0) (y:=0) (λr h'=>by rw[hr r h'];grind) a b];grind
theorem Dw {F:List fY->Rat} {r:Nat} {x:fY} (hF:∀a b,F (a++x :: x :: b)=0):∀(b p q:List fY) (s:Rat),xm F r (p++x :: x :: q) b s=0
 | [],p,q,s=>rfl
 | v :: b,p,q,s=>by
  have i1:=hF p (q++b);have i2:=Dw (r:=r) hF b p (q++[v]) (-s);simp only[xm,cD,dR] at i1 i2 ⊢;rw[i1,i2];grind
theorem Dx {F:List fY->Rat} {r:Nat} {x:fY} (hF:∀a b,F (a++x :: x :: b)=0):∀(a pre b:List fY) (s:Rat),xm F r pre (a++x :: x :: b) s=0
 | [],pre,b,s=>by
  have i2:=Dw (r:=r) hF b pre [] (- -s);simp only[xm,cM,cD,dR] at i2 ⊢;rw[i2];grind
 | v :: a,pre,b,s=>by
  have i1:=hF (pre++a) b;have i2:=Dx (r:=r) hF a (pre++[v]) b (-s);simp only[xm,cD,dR] at i1 i2 ⊢;rw[i1,i2];grind
theorem wJ {x:fY}:∀{rs:List Nat} (a b:List fY),iP rs (a++x :: x :: b)=0
 | [],a,b=>zK
 | r :: rs,a,b=>Dx (λa b=>wJ a b) a [] b 1
theorem Jp (a b:List fY):iP rs (a++x :: y :: b)=- iP rs (a++y :: x :: b):=by
 have hr:∀r∈rs,(λr=>1*x r+1*y r) r=1*x r+1*y r:=λ_ _=>rfl
 have h0:=wJ (x:=λr=>1*x r+1*y r) (rs:=rs) a b;have h1:=nQ hr a ((λr=>1*x r+1*y r) :: b);have h2:=nQ hr (a++[x]) b;have h3:=nQ hr (a++[y]) b;have h4:=wJ (x:=x) (rs:=rs) a b;have h5:=wJ (x:=y) (rs:=rs) a b;simp only[cD,dR,cM] at h0 h1 h2 h3 h4 h5;rw[h1,h2,h3,h4,h5] at h0;grind
theorem zL {x:fY} {rs:List Nat}:∀(b a c:List fY),iP rs (a++x :: (b++x :: c))=0
 | [],a,c=>wJ a c
 | y :: b,a,c=>by
  have:=zL (x:=x) (rs:=rs) b (a++[y]) c;simp only[cD,dR,cM] at this;rw[dR,Jp,this];rfl
def bH:Nat->(Nat->Rat)->Rat
 | 0,_=>0
 | k+1,f=>bH k f+f k
theorem aZ {f g:Nat->Rat}:∀{k:Nat},(∀j,j < k->f j=g j)->bH k f=bH k g
 | 0,_=>rfl
 | k+1,h=>by
  show bH k f+f k=bH k g+g k
  rw[aZ λj hj=>h j (by lia),h k (by lia)]
theorem jm {f g:Nat->Rat}:∀{k:Nat},bH k (λj=>f j+g j)=bH k f+bH k g
 | 0=>by show (0:Rat)=0+0;grind
 | k+1=>by
  show bH k (λj=>f j+g j)+_=(bH k f+f k)+(bH k g+g k)
  rw[jm];grind
theorem cQ {f:Nat->Rat} {c:Rat}:∀{k:Nat},bH k (λj=>c*f j)=c*bH k f
 | 0=>by show (0:Rat)=c*0;grind
 | k+1=>by
  show bH k (λj=>c*f j)+_=c*(bH k f+f k)
  rw[cQ];grind
theorem c4 {f:Nat->Rat}:∀{k:Nat},(∀j,j < k->f j=0)->bH k f=0
 | 0,_=>rfl
 | k+1,h=>by
  show bH k f+f k=0
  rw[c4 λj hj=>h j (by lia),h k (by lia)];grind
theorem ig {f:Nat->Rat} {i:Nat}:∀{k:Nat},i < k->(∀j,j < k->j≠i->f j=0)->bH k f=f i
 | k+1,hi,h=>by
  show bH k f+f k=f i
  by_cases e:i=k
  ·subst e;rw[c4 λj hj=>h j (by lia) (by lia)];grind
  ·rw[ig (by lia) λj hj=>h j (by lia),h k (by lia) (λz=>e z.symm)];grind
theorem gX {f:Nat->Nat->Rat} {m:Nat}:∀{k:Nat},bH k (λi=>bH m (f i))=bH m (λj=>bH k λi=>f i j)
 | 0=>(c4 λ_ _=>rfl).symm
 | k+1=>by
  show bH k (λi=>bH m (f i))+bH m (f k)=bH m (λj=>bH k (λi=>f i j)+f k j)
  rw[gX,jm]
theorem wF {rs:List Nat} {W:fY} {v:Nat->fY} {c:Nat->Rat} (a b:List fY):∀{k:Nat} {W:fY},(∀r∈rs,W r=bH k λj=>c j*v j r)->iP rs (a++W :: b)=bH k λj=>c j*iP rs (a++v j :: b)
 | 0,W,h=>DH h a b
 | k+1,W,h=>by
  rw[nQ (f:=λr=>bH k λj=>c j*v j r) (g:=v k) (x:=1) (y:=c k) (λr hr=>by rw[h r hr];show bH k _+_=_;grind) a b,wF a b (k:=k) (W:=λr=>bH k λj=>c j*v j r) λr _=>rfl];show _=bH k _+_
  grind
end L2
namespace L2
open Nm
def mF (f:Nat->Nat):Nat->List Nat
 | 0=>[]
 | k+1=>f k :: mF f k
def ie (v:Nat->fY):Nat->List fY
 | 0=>[]
 | k+1=>v k :: ie v k
def zO (v:Nat->fY) (i:Nat):Nat->List fY
 | 0=>[]
 | k+1=>if k<=i then [] else v k :: zO v i k
theorem pF {f:Nat->Nat}:∀{k:Nat},(mF f k).length=k
 | 0=>rfl
 | k+1=>by show (mF f k).length+1=_;rw[pF]
theorem cw_len {v:Nat->fY}:∀{k:Nat},(ie v k).length=k
 | 0=>rfl
 | k+1=>by show (ie v k).length+1=_;rw[cw_len]
theorem kF {f:Nat->Nat} {r:Nat}:∀{k:Nat},r∈mF f k->∃t,t < k/\r=f t
 | k+1,h=>by
  rcases aA.mp h with h | h
  ·exact ⟨k,by lia,h⟩
  ·obtain ⟨t,a,b⟩:=kF h;exact ⟨t,by lia,b⟩
theorem AB {f g:Nat->Nat}:∀{k:Nat},(∀j,j < k->f j=g j)->mF f k=mF g k
 | 0,_=>rfl
 | k+1,h=>by
  show f k :: mF f k=g k :: mF g k
  rw[h k (by lia),AB λj hj=>h j (by lia)]
theorem cw_congr {f g:Nat->fY}:∀{k:Nat},(∀j,j < k->f j=g j)->ie f k=ie g k
 | 0,_=>rfl
 | k+1,h=>by
  show f k :: ie f k=g k :: ie g k
  rw[h k (by lia),cw_congr λj hj=>h j (by lia)]
theorem cw_mem {v:Nat->fY} {j:Nat}:∀{k:Nat},j < k->v j∈ie v k
 | k+1,h=>by
  by_cases e:j=k
  ·subst e;exact .head _
  ·exact .tail _ (cw_mem (by lia))
theorem cw_in {v:Nat->fY} {x:fY}:∀{k:Nat},x∈ie v k->∃t,t < k/\x=v t
 | k+1,h=>by
  rcases aA.mp h with h | h
  ·exact ⟨k,by lia,h⟩
  ·obtain ⟨t,a,b⟩:=cw_in h;exact ⟨t,by lia,b⟩
theorem GG {v:Nat->fY} {i j:Nat} (h1:i < j):∀{k:Nat},j < k->v j∈zO v i k
 | k+1,h=>by
  show v j∈if k<=i then [] else v k :: zO v i k
  rw[if_neg (by lia)];by_cases e:j=k
  ·subst e;exact .head _
  ·exact .tail _ (GG h1 (by lia))
theorem DQ {v:Nat->fY} {i:Nat} {x:fY}:∀{k:Nat},x∈zO v i k->∃t,t < k/\x=v t
 | k+1,h=>by
  have h:x∈if k<=i then [] else v k :: zO v i k:=h
  split at h
  ·cases h
  ·rcases aA.mp h with h | h
   ·exact ⟨k,by lia,h⟩
   ·obtain ⟨t,a,b⟩:=DQ h;exact ⟨t,by lia,b⟩
theorem cw_split {v:Nat->fY} {i:Nat}:∀{k:Nat},i < k->ie v k=zO v i k++v i :: ie v i
 | k+1,h=>by
  show v k :: ie v k=(if k<=i then [] else v k :: zO v i k)++_
  by_cases e:i=k
  ·subst e;rw[if_pos (av _)];rfl
  ·rw[if_neg (by lia),cw_split (k:=k) (i:=i) (by lia)];rfl
theorem yk {c:Nat->Rat} (hi:i < k) (hW:∀r∈rs,W r=bH k λj=>c j*v j r):iP rs (zO v i k++W :: ie v i)=c i*iP rs (ie v k):=by
 rw[wF (v:=v) (c:=c) (W:=W) _ _ hW,ig hi λj hj ne=>?_,cw_split hi];rcases gN j i with h | h
 ·obtain ⟨s,t,e⟩:=BC (cw_mem (v:=v) h);rw[e,zL];grind
 ·obtain ⟨s,t,e⟩:=BC (GG (v:=v) (show i < j by lia) hj);have:=zL (x:=v j) (rs:=rs) t s (ie v i);rw[e,cD,dR,this];grind
theorem Li {c:Nat->Rat} (hW:∀r∈rs,W r=bH k λj=>c j*v j r):iP rs (W :: ie v k)=0:=by
 have:=wF (v:=v) (c:=c) (W:=W) [] (ie v k) hW;rw[cM] at this;rw[this];refine c4 λj hj=>?_
 obtain ⟨s,t,e⟩:=BC (cw_mem (v:=v) hj);have:=zL (x:=v j) (rs:=rs) s [] t;rw[cM] at this;rw[e,cM,this];grind
theorem EV {c:Nat->Rat} (hi:i∉rs) (h1:W i=bH k (λj=>c j*v j i)+s) (hW:∀r∈rs,W r=bH k λj=>c j*v j r):iP (i :: rs) (W :: ie v k)=s*iP rs (ie v k):=by
 have e:=nQ (rs:=i :: rs) (h:=W) (f:=λr=>bH k λj=>c j*v j r) (g:=λr=>if r=i then 1 else 0) (x:=1) (y:=s) (λr hr=>by
  rcases aA.mp hr with rfl | hr
  ·rw[h1,if_pos rfl];grind
  ·rw[hW r hr,if_neg (λz=>hi (by rw[<- z];exact hr))];grind) [] (ie v k)
 rw[cM,cM,cM,Li (c:=c) λr _=>rfl] at e
 have e2:iP (i :: rs) ((λr=>if r=i then (1:Rat) else 0) :: ie v k)=iP rs (ie v k):=by
  show 1*(if i=i then (1:Rat) else 0)*iP rs ([]++ie v k)+xm (λws=>iP rs ws) i ([]++[λr=>if r=i then (1:Rat) else 0]) (ie v k) (-1)=_
  have hF:∀a b,(λws=>iP rs ws) (a++(λr=>if r=i then (1:Rat) else 0) :: b)=0*(λws=>iP rs ws) (a++(λr=>if r=i then (1:Rat) else 0) :: b)+0*(λws=>iP rs ws) (a++(λr=>if r=i then (1:Rat) else 0) :: b):=λa b=>by
   have:=DH (h:=λr=>if r=i then (1:Rat) else 0) (rs:=rs) (λr hr=>if_neg λz=>hi (by rw[<- z];exact hr)) a b
   dsimp only
   rw[this];grind
  have:=zB (r:=i) hF (ie v k) [] [] (-1);rw[this,if_pos rfl,cM];grind
 rw[e2] at e;rw[e];grind
theorem JP {F:List fY->Rat} {r B W:Nat}:∀{post pre:List fY} {s:Rat},(∀ws,(∀w∈ws,w∈pre++post)->ws.length+1=(pre++post).length->Fr 1 B (F ws))->(∀w∈post,Fr 1 W (w r))->Fr 1 1 s->Fr 1 (post.length*(W*B)) (xm F r pre post s)
 | [],pre,s,_,_,_=>by show Fr 1 _ 0;exact Fr.zero
 | v :: post,pre,s,hF,hw,hs=>by
  have t1:Fr 1 (W*B) (s*v r*F (pre++post)):=by
   have:=(hs.mul (hw v (.head _))).mul (hF (pre++post) (λw h=>by
    rcases az.mp h with h | h
    ·exact d5 _ h
    ·exact bE _ (.tail _ h)) (by simp only[ax,bF];lia))
   simpa using this
  have t2:=JP (F:=F) (r:=r) (B:=B) (W:=W) (post:=post) (pre:=pre++[v]) (s:=-s) (λws h h'=>hF ws (λw hw=>by simpa using h w hw) (by simpa using h')) (λw h=>hw w (.tail _ h)) (by simpa using hs.neg);exact (t1.add t2).mono (by rw[bF,fG];lia)
theorem wI {W N:Nat}:∀{rs:List Nat} {vs:List fY},vs.length<=N->(∀v∈vs,∀r∈rs,Fr 1 W (v r))->Fr 1 ((N*W)^rs.length) (iP rs vs)
 | [],[],_,_=>by show Fr 1 1 1;exact (Fr.int (i:=1) (by decide))
 | [],_ :: _,_,_=>by show Fr 1 _ 0;exact Fr.zero
 | r :: rs,vs,hl,h=>by
  have:=JP (F:=λws=>iP rs ws) (r:=r) (B:=(N*W)^rs.length) (W:=W) (post:=vs) (pre:=[]) (s:=1) (λws h1 h2=>wI (by rw[cM] at h2;lia) λv hv r' hr'=>h v (by simpa using h1 v hv) r' (.tail _ hr')) (λw hw=>h w hw r (.head _)) (Fr.int (i:=1) (by decide));refine this.mono ?_;rw[bF,jh,cH ((N*W)^rs.length),cN N];exact aG _ hl
structure xk (a:Nat->Nat->Rat) (m k:Nat) (pm p:Nat->Nat) (l:Nat->Nat->Rat) (d:Rat):Prop where
 inj:∀i j,i < m->j < m->pm i=pm j->i=j
 rng:∀i,i < m->pm i < m
 km:k<=m
 d0:d≠0
 det:d=iP (mF pm k) (ie (λj r=>a r (p j)) k)
 eqs:∀i,i < m->∀c,d*a (pm i) c=bH k (λj=>a (pm i) (p j)*l j c)+if i < k then 0 else l i c
 unit:∀i,i < m->∀j,j < k->l i (p j)=if i=j then d else 0
section
variable {a l:Nat->Nat->Rat} {m k:Nat} {pm p:Nat->Nat} {d:Rat}
theorem xk.start (h:∀i,i < m->pm i=i):xk a m 0 pm p a 1 where
 inj i j hi hj e:=by rw[h i hi,h j hj] at e;exact e
 rng i hi:=by rw[h i hi];exact hi
 km:=bJ _
 d0:=by decide
 det:=rfl
 eqs i hi c:=by
  rw[h i hi,if_neg (by lia)];show 1*a i c=0+a i c
  grind
 unit i _ j hj:=absurd hj (by lia)
theorem xk.coef (B:xk a m k pm p l d) (hi:i < m):a (pm i) c=bH k (λj=>(l j c / d)*a (pm i) (p j))+if i < k then 0 else l i c / d:=by
 have h:=B.eqs i hi c;have d0:=B.d0
 have e:bH k (λj=>(l j c / d)*a (pm i) (p j))=(1 / d)*bH k (λj=>a (pm i) (p j)*l j c):=by
  rw[<- cQ];exact aZ λj _=>by grind
 rw[e]
 split at h
 ·rw[if_pos (by assumption)];grind
 ·rw[if_neg (by assumption)];grind
theorem xk.old (B:xk a m k pm p l d) (hi:i < k):l i c=iP (mF pm k) (zO (λj r=>a r (p j)) i k++(λr=>a r c) :: ie (λj r=>a r (p j)) i):=by
 have km:=B.km;have d0:=B.d0;rw[yk (v:=λj r=>a r (p j)) (c:=λj=>l j c / d) hi λr hr=>?_,<- B.det]
 ·grind
 ·obtain ⟨t,ht,rfl⟩:=kF hr;have:=B.coef (i:=t) (c:=c) (by lia);rw[if_pos ht] at this;rw[this];grind
theorem xk.new (B:xk a m k pm p l d) (h1:k<=i) (hi:i < m):l i c=iP (pm i :: mF pm k) ((λr=>a r c) :: ie (λj r=>a r (p j)) k):=by
 have km:=B.km;have d0:=B.d0
 have hn:pm i∉mF pm k:=λhm=>by
  obtain ⟨t,ht,e⟩:=kF hm;have:=B.inj i t hi (by lia) e
  lia
 have e1:a (pm i) c=bH k (λj=>(l j c / d)*a (pm i) (p j))+l i c / d:=by
  have:=B.coef (i:=i) (c:=c) hi;rwa [if_neg (by lia)] at this
 have e2:∀r∈mF pm k,a r c=bH k (λj=>(l j c / d)*a r (p j)):=λr hr=>by
  obtain ⟨t,ht,rfl⟩:=kF hr;have:=B.coef (i:=t) (c:=c) (by lia);rw[if_pos ht] at this;rw[this];grind
 rw[EV (v:=λj r=>a r (p j)) (c:=λj=>l j c / d) (W:=λr=>a r c) (s:=l i c / d) hn e1 e2,<- B.det];grind
theorem xk.fr (B:xk a m k pm p l d) (hN:k < N) (hW:1<=W) (ha:∀i,i < m->∀c,Fr 1 W (a i c)) (hi:i < m):Fr 1 ((N*W)^(k+1)) (l i c):=by
 have km:=B.km;have mono:∀t,t<=k+1->(N*W)^t<=(N*W)^(k+1):=λt ht=>au (bN (by lia) hW) ht
 have ha':∀r∈mF pm k,∀c,Fr 1 W (a r c):=λr hr c=>by
  obtain ⟨t,ht,rfl⟩:=kF hr;exact ha _ (B.rng t (by lia)) c
 by_cases h:i < k
 ·rw[B.old h];refine (wI (W:=W) (N:=N) ?_ ?_).mono (mono _ (by rw[pF];lia))
  ·have:=congrArg List.length (cw_split (v:=λj r=>a r (p j)) h);rw[ax,bF,cw_len] at this;rw[ax,bF]
   lia
  ·intro v hv r hr;rcases az.mp hv with hv | hv
   ·obtain ⟨t,_,rfl⟩:=DQ hv;exact ha' r hr _
   ·rcases aA.mp hv with rfl | hv
    ·exact ha' r hr _
    ·obtain ⟨t,_,rfl⟩:=cw_in hv;exact ha' r hr _
 ·rw[B.new (by lia) hi];refine (wI (W:=W) (N:=N) ?_ ?_).mono (mono _ (by rw[bF,pF];lia))
  ·rw[bF,cw_len]
   lia
  ·intro v hv r hr
   have hr':∀c,Fr 1 W (a r c):=λc=>by
    rcases aA.mp hr with rfl | hr
    ·exact ha _ (B.rng i hi) c
    ·exact ha' r hr c
   rcases aA.mp hv with rfl | hv
   ·exact hr' _
   ·obtain ⟨t,_,rfl⟩:=cw_in hv;exact hr' _
theorem xk.dfr (B:xk a m k pm p l d) (hN:k<=N) (ha:∀i,i < m->∀c,Fr 1 W (a i c)):Fr 1 ((N*W)^k) d:=by
 have km:=B.km;rw[B.det]
 have:=wI (W:=W) (N:=N) (rs:=mF pm k) (vs:=ie (λj r=>a r (p j)) k) (by rw[cw_len];exact hN) λv hv r hr=>by
  obtain ⟨t,ht,rfl⟩:=kF hr;obtain ⟨t',_,rfl⟩:=cw_in hv;exact ha _ (B.rng t (by lia)) _
 rwa [pF] at this
def rC (k t i:Nat):Nat:=if i=k then t else if i=t then k else i
theorem pY (hk:k < m) (ht:t < m) (hi:i < m):rC k t i < m:=by
 unfold rC
 split
 ·exact ht
 ·split
  ·exact hk
  ·exact hi
theorem Kk (h:rC k t i=rC k t j):i=j:=by
 unfold rC at h
 split at h <;> split at h <;> (try split at h) <;> (try split at h) <;> lia
theorem rA (h:k<=t) (hi:i < k):rC k t i=i:=by
 unfold rC;rw[if_neg (by lia),if_neg (by lia)]
theorem uP (h:k<=t) (hi:k<=i):k<=rC k t i:=by
 unfold rC
 split
 ·exact h
 ·split <;> lia
theorem xk.swap (B:xk a m k pm p l d) {t:Nat} (h:k<=t) (ht:t < m):xk a m k (λi=>pm (rC k t i)) p (λi=>l (rC k t i)) d where
 inj i j hi hj e:=Kk (B.inj _ _ (pY (by lia) ht hi) (pY (by lia) ht hj) e)
 rng i hi:=B.rng _ (pY (by lia) ht hi)
 km:=B.km
 d0:=B.d0
 det:=by rw[B.det,AB (f:=pm) (g:=λi=>pm (rC k t i)) λj hj=>by rw[rA h hj]]
 eqs i hi c:=by
  have e:=B.eqs (rC k t i) (pY (by lia) ht hi) c;have e1:bH k (λj=>a (pm (rC k t i)) (p j)*l (rC k t j) c)=bH k (λj=>a (pm (rC k t i)) (p j)*l j c):=aZ λj hj=>by rw[rA h hj]
  rw[e1];by_cases hk:i < k
  ·rw[rA h hk] at e ⊢;exact e
  ·rw[if_neg hk];rw[if_neg (by have:=uP h (show k<=i by lia);lia)] at e;exact e
 unit i hi j hj:=by
  rw[B.unit _ (pY (by lia) ht hi) j hj];by_cases hk:i < k
  ·rw[rA h hk]
  ·have:=uP h (show k<=i by lia);rw[if_neg (by lia),if_neg (by lia)]
theorem xk.step (B:xk a m k pm p l d) {c0:Nat} (hk:k < m) (h0:l k c0≠0):xk a m (k+1) pm (λj=>if j=k then c0 else p j) (λi c=>if i=k then l k c else (l k c0*l i c - l i c0*l k c) / d) (l k c0) where
 inj:=B.inj
 rng:=B.rng
 km:=hk
 d0:=h0
 det:=by
  rw[B.new (av _) hk];show _=iP (pm k :: mF pm k) ((λr=>a r (if k=k then c0 else p k)) :: ie _ k)
  rw[if_pos rfl];congr 2;exact cw_congr λj hj=>by rw[if_neg (show j≠k by lia)]
 eqs i hi c:=by
  have d0:=B.d0;have e1:=B.eqs i hi c;have e2:=B.eqs i hi c0;show l k c0*a (pm i) c=(bH k _+_)+_
  have s1:bH k (λj=>a (pm i) (if j=k then c0 else p j)*(if j=k then l k c else (l k c0*l j c - l j c0*l k c) / d))=(l k c0 / d)*bH k (λj=>a (pm i) (p j)*l j c)+(- l k c / d)*bH k (λj=>a (pm i) (p j)*l j c0):=by
   rw[<- cQ,<- cQ,<- jm];refine aZ λj hj=>?_
   rw[if_neg (show j≠k by lia),if_neg (show j≠k by lia)];grind
  rw[s1];simp only[if_true];generalize bH k (λj=>a (pm i) (p j)*l j c)=S1 at e1 ⊢;generalize bH k (λj=>a (pm i) (p j)*l j c0)=S2 at e2 ⊢;rcases rh i k with h | h | h
  ·rw[if_pos h] at e1 e2;rw[if_pos (by lia)];grind
  ·subst h;rw[if_neg (by lia)] at e1 e2;rw[if_pos (by lia)];grind
  ·rw[if_neg (by lia)] at e1 e2;rw[if_neg (by lia),if_neg (by lia)];grind
 unit i hi j hj:=by
  have d0:=B.d0;by_cases e:j=k
  ·subst e;simp only[if_true];by_cases ei:i=j
   ·rw[if_pos ei,if_pos ei]
   ·rw[if_neg ei,if_neg ei];grind
  ·have hj':j < k:=by lia
   rw[if_neg e];by_cases ei:i=k
   ·rw[if_pos ei,B.unit k hk j hj',if_neg (by lia),if_neg (by lia)]
   ·rw[if_neg ei,B.unit i hi j hj',B.unit k hk j hj',if_neg (show k≠j by lia)]
    split
    ·grind
    ·grind
end
def fJ (m:Nat) (a:Nat->Nat->Rat) (x:Nat->Rat):Prop:=∃w:Nat->Rat,∀c,x c=bH m λt=>w t*a t c
section
variable {m m' k n:Nat} {a b:Nat->Nat->Rat} {x y:Nat->Rat}
theorem fJ.row (hi:i < m):fJ m a (a i):=⟨λt=>if t=i then 1 else 0,λc=>by
 rw[ig hi λj _ ne=>by dsimp only;rw[if_neg ne];grind]
 dsimp only
 rw[if_pos rfl];grind⟩
theorem fJ.lin (α β:Rat) (hx:fJ m a x) (hy:fJ m a y):fJ m a λc=>α*x c+β*y c:=by
 obtain ⟨w,hw⟩:=hx;obtain ⟨v,hv⟩:=hy;refine ⟨λt=>α*w t+β*v t,λc=>?_⟩
 dsimp only
 rw[hw c,hv c,<- cQ,<- cQ,<- jm];exact aZ λj _=>by grind
theorem fJ.congr (h:∀c,x c=y c) (hx:fJ m a x):fJ m a y:=by obtain ⟨w,hw⟩:=hx;exact ⟨w,λc=>by rw[<- h c];exact hw c⟩
theorem fJ.trans (h:∀t,t < m'->fJ m a (b t)) (hx:fJ m' b x):fJ m a x:=by
 obtain ⟨v,hv⟩:=hx
 have h2:∀t,∃w:Nat->Rat,t < m'->∀c,b t c=bH m λs=>w s*a s c:=λt=>by
  by_cases ht:t < m'
  ·obtain ⟨w,hw⟩:=h t ht;exact ⟨w,λ_=>hw⟩
  ·exact ⟨λ_=>0,λz=>absurd z ht⟩
 have hc:=Classical.axiomOfChoice h2;obtain ⟨w,hw⟩:=hc;refine ⟨λs=>bH m' λt=>v t*w t s,λc=>?_⟩;rw[hv c];have e1:bH m' (λt=>v t*b t c)=bH m' (λt=>bH m λs=>v t*(w t s*a s c)):=aZ λt ht=>by rw[hw t ht c,<- cQ]
 rw[e1,gX];refine aZ λs _=>?_
 have:bH m' (λt=>v t*w t s)*a s c=a s c*bH m' (λt=>v t*w t s):=eO ..;rw[this,<- cQ];exact aZ λt _=>by grind
theorem fJ.zero (h:∀c,x c=0):fJ m a x:=⟨λ_=>0,λc=>by rw[h c,c4 λ_ _=>by grind]⟩
end
structure Bm (m n:Nat) (a:Nat->Nat->Rat) (k:Nat) (p:Nat->Nat) (R:Nat->Nat->Rat):Prop where
 inc:∀i j,i < j->j < k->p i < p j
 low:∀j,j < k->p j < n
 unit:∀i,i < k->∀j,j < k->R i (p j)=if i=j then 1 else 0
 lead:∀i,i < k->∀c,c < p i->R i c=0
 span:∀i,i < m->fJ k R (a i)
 back:∀i,i < k->fJ m a (R i)
section
variable {m m' k k' n:Nat} {a a' R R':Nat->Nat->Rat} {p p':Nat->Nat} {x:Nat->Rat}
theorem Bm.coef (h:Bm m n a k p R) (hx:fJ k R x) (c:Nat):x c=bH k λj=>x (p j)*R j c:=by
 obtain ⟨w,hw⟩:=hx;rw[hw c];refine aZ λj hj=>?_
 rw[hw (p j),ig hj λt ht ne=>by rw[h.unit t ht j hj,if_neg ne];grind,h.unit j hj j hj,if_pos rfl];grind
theorem Bm.lead_in (h:Bm m n a k p R) (hx:fJ k R x) (h1:x c≠0) (h0:∀c',c' < c->x c'=0):∃j,j < k/\p j=c:=by
 refine Classical.byContradiction λhn=>h1 ?_
 rw[h.coef hx c];refine c4 λj hj=>?_
 rcases rh (p j) c with z | z | z
 ·rw[h0 _ z];grind
 ·exact absurd ⟨j,hj,z⟩ hn
 ·rw[h.lead j hj c z];grind
theorem inc_le (h1:∀i j,i < j->j < k->p i < p j) (h2:∀i j,i < j->j < k'->p' i < p' j) (hs:∀j,j < k'->∃i,i < k/\p i=p' j):∀{j:Nat},j < k'->∀{i:Nat},i < k->p i=p' j->j<=i
 | 0,_,_,_,_=>bJ _
 | j+1,hj,i,hi,e=>by
  obtain ⟨i0,hi0,e0⟩:=hs j (by lia);have:=inc_le h1 h2 hs (j:=j) (by lia) hi0 e0;have lt:=h2 j (j+1) (by lia) hj;rcases rh i0 i with z | z | z
  ·lia
  ·subst z;lia
  ·have:=h1 i i0 z hi0;lia
theorem F8 (h1:∀i j,i < j->j < k->p i < p j) (h:i<=j) (hj:j < k):p i<=p j:=by
 rcases gN i j with z | z
 ·exact bf (h1 i j z hj)
 ·have:i=j:=by lia
  rw[this];exact av _
theorem DD (h1:∀i j,i < j->j < k->p i < p j) (h2:∀i j,i < j->j < k'->p' i < p' j) (hs:∀j,j < k'->∃i,i < k/\p i=p' j):k'<=k/\∀j,j < k'->p j<=p' j:=by
 refine ⟨?_,λj hj=>?_⟩
 ·rcases o6 k' with z | z
  ·lia
  ·obtain ⟨i,hi,e⟩:=hs (k' - 1) (by lia);have:=inc_le h1 h2 hs (j:=k' - 1) (by lia) hi e
   lia
 ·obtain ⟨i,hi,e⟩:=hs j hj;rw[<- e];exact F8 h1 (inc_le h1 h2 hs hj hi e) hi
theorem Bm.uniq (h:Bm m n a k p R) (h':Bm m' n a' k' p' R') (s1:∀i,i < m->fJ m' a' (a i)) (s2:∀i,i < m'->fJ m a (a' i)):k=k'/\(∀j,j < k->p j=p' j)/\∀i,i < k->∀c,R i c=R' i c:=by
 have x1:∀i,i < k->fJ k' R' (R i):=λi hi=>fJ.trans (λt ht=>h'.span t ht) (fJ.trans s1 (h.back i hi))
 have x2:∀i,i < k'->fJ k R (R' i):=λi hi=>fJ.trans (λt ht=>h.span t ht) (fJ.trans s2 (h'.back i hi))
 have y1:∀j,j < k->∃i,i < k'/\p' i=p j:=λj hj=>h'.lead_in (x1 j hj) (by rw[h.unit j hj j hj,if_pos rfl];decide) (h.lead j hj)
 have y2:∀j,j < k'->∃i,i < k/\p i=p' j:=λj hj=>h.lead_in (x2 j hj) (by rw[h'.unit j hj j hj,if_pos rfl];decide) (h'.lead j hj)
 obtain ⟨z1,w1⟩:=DD h'.inc h.inc y1;obtain ⟨z2,w2⟩:=DD h.inc h'.inc y2;have ek:k=k':=Nat.le_antisymm z1 z2;subst ek;have ep:∀j,j < k->p j=p' j:=λj hj=>Nat.le_antisymm (w2 j hj) (w1 j hj)
 refine ⟨rfl,ep,λi hi c=>?_⟩;rw[h.coef (x2 i hi) c,ig hi λj hj ne=>by rw[ep j hj,h'.unit i hi j hj,if_neg (λz=>ne z.symm)];grind,ep i hi,h'.unit i hi i hi,if_pos rfl];grind
end
structure kS (a:Nat->Nat->Rat) (m k P:Nat) (p:Nat->Nat) (l:Nat->Nat->Rat) (d:Rat):Prop where
 km:k<=m
 d0:d≠0
 unit:∀i,i < m->∀j,j < k->l i (p j)=if i=j then d else 0
 inc:∀i j,i < j->j < k->p i < p j
 low:∀j,j < k->p j < P
 zero:∀i,k<=i->i < m->∀c,c < P->l i c=0
 lead:∀j,j < k->∀c,c < p j->l j c=0
 there:∀i,i < m->fJ m l (a i)
 back:∀i,i < m->fJ m a (l i)
section
variable {m k n P:Nat} {a l l':Nat->Nat->Rat} {p:Nat->Nat} {d d':Rat}
theorem kS.start:kS a m 0 0 p a 1 where
 km:=bJ _
 d0:=by decide
 unit _ _ j hj:=absurd hj (by lia)
 inc _ j _ hj:=absurd hj (by lia)
 low j hj:=absurd hj (by lia)
 zero _ _ _ c hc:=absurd hc (by lia)
 lead j hj:=absurd hj (by lia)
 there i hi:=fJ.row hi
 back i hi:=fJ.row hi
theorem kS.skip (E:kS a m k P p l d) (h:∀i,k<=i->i < m->l i P=0):kS a m k (P+1) p l d :=
 ⟨E.km,E.d0,E.unit,E.inc,λj hj=>Nat.lt_succ_of_lt (E.low j hj),λi h1 h2 c hc=>by
  by_cases e:c=P
  ·rw[e];exact h i h1 h2
  ·exact E.zero i h1 h2 c (by lia),E.lead,E.there,E.back⟩
theorem LU:rC k t (rC k t i)=i:=by
 unfold rC
 split
 ·split <;> (try split) <;> lia
 ·split
  ·rw[if_pos rfl];lia
  ·rfl
theorem kS.swap (E:kS a m k P p l d) {t:Nat} (h:k<=t) (ht:t < m):kS a m k P p (λi=>l (rC k t i)) d where
 km:=E.km
 d0:=E.d0
 unit i hi j hj:=by
  rw[E.unit _ (pY (by lia) ht hi) j hj];by_cases hk:i < k
  ·rw[rA h hk]
  ·have:=uP h (show k<=i by lia);rw[if_neg (by lia),if_neg (by lia)]
 inc:=E.inc
 low:=E.low
 zero i h1 h2 c hc:=E.zero _ (uP h h1) (pY (by lia) ht h2) c hc
 lead j hj c hc:=by rw[rA h hj];exact E.lead j hj c hc
 there i hi:=fJ.trans (λs hs=>fJ.congr (λc=>by rw[LU]) (fJ.row (a:=λi=>l (rC k t i)) (i:=rC k t s) (pY (by lia) ht hs))) (E.there i hi)
 back i hi:=E.back _ (pY (by lia) ht hi)
theorem kS.step (E:kS a m k P p l d) (hk:k < m) (h0:d'≠0) (unit':∀i,i < m->∀j,j < k+1->l' i (if j=k then P else p j)=if i=j then d' else 0)
  (hl:∀i,i < m->∃β γ:Rat,β≠0/\(i=k->γ=0)/\∀c,l' i c=β*l i c+γ*l k c):kS a m (k+1) (P+1) (λj=>if j=k then P else p j) l' d' where
 km:=hk
 d0:=h0
 unit:=unit'
 inc i j hij hj:=by
  by_cases e:j=k
  ·rw[if_pos e,if_neg (by lia)];exact E.low i (by lia)
  ·rw[if_neg e,if_neg (by lia)];exact E.inc i j hij (by lia)
 low j hj:=by
  by_cases e:j=k
  ·rw[if_pos e];lia
  ·rw[if_neg e];exact Nat.lt_succ_of_lt (E.low j (by lia))
 zero i h1 h2 c hc:=by
  by_cases e:c=P
  ·have:=unit' i h2 k (by lia);rw[if_pos rfl,if_neg (by lia)] at this;rw[e];exact this
  ·obtain ⟨β,γ,_,_,q⟩:=hl i h2;rw[q c,E.zero i (by lia) h2 c (by lia),E.zero k (av _) hk c (by lia)];grind
 lead j hj c hc:=by
  have km:=E.km;obtain ⟨β,γ,_,_,q⟩:=hl j (by lia);by_cases e:j=k
  ·rw[if_pos e] at hc;rw[q c,e,E.zero k (av _) hk c hc];grind
  ·rw[if_neg e] at hc;have:=E.low j (by lia);rw[q c,E.lead j (by lia) c hc,E.zero k (av _) hk c (by lia)];grind
 there i hi:=by
  refine fJ.trans (λs hs=>?_) (E.there i hi);obtain ⟨β,γ,b0,_,q⟩:=hl s hs;obtain ⟨βk,γk,bk0,gk,qk⟩:=hl k hk;have g0:=gk rfl;refine fJ.congr (λc=>?_) (fJ.lin (1 / β) (-(γ / β) / βk) (fJ.row (a:=l') hs) (fJ.row (a:=l') hk));rw[q c,qk c,g0];grind
 back i hi:=by
  obtain ⟨β,γ,_,_,q⟩:=hl i hi;exact fJ.congr (λc=>(q c).symm) (fJ.lin β γ (E.back i hi) (E.back k hk))
theorem kS.done (E:kS a m k n p l d) (ha:∀i,i < m->∀c,n<=c->a i c=0):Bm m n a k p (λi c=>l i c / d) where
 inc:=E.inc
 low:=E.low
 unit i hi j hj:=by
  have d0:=E.d0;have km:=E.km;rw[E.unit i (by lia) j hj]
  split
  ·grind
  ·grind
 lead i hi c hc:=by
  rw[E.lead i hi c hc];grind
 span i hi:=by
  have d0:=E.d0;refine fJ.trans (λs hs=>?_) (E.there i hi);by_cases z:s < k
  ·refine fJ.congr (λc=>?_) (fJ.lin d 0 (fJ.row (a:=λi c=>l i c / d) z) (fJ.row (a:=λi c=>l i c / d) z));grind
  ·refine fJ.zero λc=>?_
   by_cases hc:c < n
   ·exact E.zero s (by lia) hs c hc
   ·obtain ⟨w,hw⟩:=E.back s hs;rw[hw c,c4 λt ht=>by rw[ha t ht c (by lia)];grind]
 back i hi:=by
  have km:=E.km;have d0:=E.d0;refine fJ.congr (λc=>?_) (fJ.lin (1 / d) 0 (E.back i (by lia)) (E.back i (by lia)));grind
end
def dX (ls:List (List Int)) (i c:Nat):Rat:=(((ls.getD i []).getD c 0:Int):Rat)
def cY (rows:LR9) (i c:Nat):Rat:=(rows.getD i []).getD c 0
def lF (ls:List (List Int)) (k t:Nat):List (List Int):=(ls.set k (ls.getD t [])).set t (ls.getD k [])
def A4 (ls:List (List Int)) (k c:Nat) (b:Int):List (List Int):=(ls.map λzs=>List.zipWith (λx y=>((ls.getD k []).getD c 0*x - zs.getD c 0*y).fdiv b) zs (ls.getD k [])).set k (ls.getD k [])
section
variable {ls ls0:List (List Int)} {k t n P c:Nat} {b d:Int} {ps:List Nat}
theorem nP {α:Type} {l:List α} {x e:α} (hi:i < l.length):(l.set i x).getD j e=if j=i then x else l.getD j e:=by
 rw[aa,aa,List.getElem?_set];by_cases h:j=i
 ·subst h;rw[if_pos rfl,if_pos hi,if_pos rfl];rfl
 ·rw[if_neg (λz=>h z.symm),if_neg h]
theorem rB:(lF ls k t).length=ls.length:=by unfold lF;rw[dM,dM]
theorem GN:(A4 ls k c b).length=ls.length:=by unfold A4;rw[dM,ak]
theorem getD_in {α:Type} {l:List α} {e:α} (h:i < l.length):l.getD i e∈l:=by
 rw[aa,af h];exact aK h
theorem CV (w:∀zs∈ls,zs.length=n) (hk:k < ls.length) (ht:t < ls.length):∀zs∈lF ls k t,zs.length=n:=λzs hz=>by
 unfold lF at hz;rcases bZ hz with h | h
 ·rcases bZ h with h | h
  ·exact w zs h
  ·rw[h];exact w _ (getD_in ht)
 ·rw[h];exact w _ (getD_in hk)
theorem DS (w:∀zs∈ls,zs.length=n) (hk:k < ls.length):∀zs∈A4 ls k c b,zs.length=n:=λzs hz=>by
 unfold A4 at hz;rcases bZ hz with h | h
 ·obtain ⟨y,hy,rfl⟩:=ay.mp h;rw[bg,w y hy,w _ (getD_in hk)]
  lia
 ·rw[h];exact w _ (getD_in hk)
theorem qB (hk:k < ls.length) (ht:t < ls.length) (i c:Nat):dX (lF ls k t) i c=dX ls (rC k t i) c:=by
 unfold dX lF rC;rw[nP (by rw[dM];exact ht),nP hk];by_cases h1:i=t
 ·rw[if_pos h1];by_cases h2:i=k
  ·rw[if_pos h2,<- h1,<- h2]
  ·rw[if_neg h2,if_pos h1]
 ·rw[if_neg h1];by_cases h2:i=k
  ·rw[if_pos h2,if_pos h2]
  ·rw[if_neg h2,if_neg h2,if_neg h1]
theorem wD (w:∀zs∈ls,zs.length=n) (hc:n<=c):dX ls i c=0:=by
 unfold dX;by_cases h:i < ls.length
 ·have:=w _ (getD_in (e:=[]) h);rw[aa (l:=ls.getD i []),aW (by lia)];rfl
 ·rw[aa (l:=ls),aW (by lia)];rfl
theorem qP {x:Int} (h:(x:Rat)=0):x=0:=by
 have:(x:Rat)=((0:Int):Rat):=h;exact dj.mp this
theorem Cw {x b:Int} (hb:b≠0) (hq:∃z:Int,q=(z:Rat)) (e:(x:Rat)=(b:Rat)*q):((x.fdiv b:Int):Rat)=q:=by
 obtain ⟨z,rfl⟩:=hq;rw[<- aR] at e;have:=dj.mp e;rw[this,Int.mul_fdiv_cancel_left _ hb]
theorem uX (h:Fr 1 W q):∃z:Int,q=(z:Rat):=by
 obtain ⟨z,e,_⟩:=h;exact ⟨z,by rw[<- e];simp⟩
theorem sW {z:Int} (h:Fr 1 W (z:Rat)):z.natAbs<=W:=by
 obtain ⟨y,e,b⟩:=h;have:(z:Rat)=(y:Rat):=by rw[<- e];simp
 rw[dj.mp this];simpa using b
theorem Gr (w:∀zs∈ls,zs.length=n) (hk:k < ls.length) (hb:b≠0) (hi:i < ls.length) (hz:∀c,∃z:Int,(dX ls k P*dX ls i c - dX ls i P*dX ls k c) / (b:Rat)=(z:Rat)) (c:Nat) :
  dX (A4 ls k P b) i c=if i=k then dX ls k c else (dX ls k P*dX ls i c - dX ls i P*dX ls k c) / (b:Rat):=by
 by_cases e:i=k
 ·rw[if_pos e];unfold dX A4;rw[nP (by rw[ak];exact hk),if_pos e]
 ·rw[if_neg e];by_cases hc:c < n
  ·have hb':(b:Rat)≠0:=λz=>hb (qP z)
   have lk:=w _ (getD_in (e:=[]) hk);have li:=w _ (getD_in (e:=[]) hi)
   have e1:dX (A4 ls k P b) i c=(((((ls.getD k []).getD P 0*(ls.getD i []).getD c 0 - (ls.getD i []).getD P 0*(ls.getD k []).getD c 0).fdiv b:Int)):Rat):=by
    unfold A4;rw[dX,nP (by rw[ak];exact hk),if_neg e];rw[aa (l:=List.map _ ls),aB,af hi];show ((((List.zipWith _ ls[i] (ls.getD k [])).getD c 0:Int)):Rat)=_
    have ei:ls.getD i []=ls[i]:=by rw[aa,af hi];rfl
    rw[<- ei];rw[aa (l:=List.zipWith _ _ _),bx,aa (l:=ls.getD i []) (i:=c),aa (l:=ls.getD k []) (i:=c),af (show c < (ls.getD i []).length by lia),af (show c < (ls.getD k []).length by lia)];rfl
   rw[e1];refine Cw hb (hz c) ?_;rw[Rat.intCast_sub,aR,aR];show _=(b:Rat)*((dX ls k P*dX ls i c - dX ls i P*dX ls k c) / (b:Rat))
   show dX ls k P*dX ls i c - dX ls i P*dX ls k c=_
   grind
  ·rw[wD (DS w hk) (show n<=c by lia),wD w (i:=i) (show n<=c by lia),wD w (i:=k) (show n<=c by lia)];grind
end
section
variable {m k n P:Nat} {a l l2:Nat->Nat->Rat} {pm p p2:Nat->Nat} {d:Rat}
theorem xk.congr (B:xk a m k pm p l d) (hp:∀j,j < k->p2 j=p j) (hl:∀i,i < m->∀c,l2 i c=l i c):xk a m k pm p2 l2 d where
 inj:=B.inj
 rng:=B.rng
 km:=B.km
 d0:=B.d0
 det:=by rw[B.det,cw_congr (f:=λj r=>a r (p j)) (g:=λj r=>a r (p2 j)) λj hj=>by rw[hp j hj]]
 eqs i hi c:=by
  have km:=B.km;rw[B.eqs i hi c,hl i hi c];congr 1;exact aZ λj hj=>by rw[hp j hj,hl j (by lia) c]
 unit i hi j hj:=by rw[hp j hj,hl i hi];exact B.unit i hi j hj
theorem fJ.rows (h:∀i,i < m->∀c,l2 i c=l i c) (hx:fJ m l x):fJ m l2 x:=by obtain ⟨w,hw⟩:=hx;exact ⟨w,λc=>by rw[hw c];exact aZ λt ht=>by rw[h t ht c]⟩
theorem kS.congr (E:kS a m k P p l d) (hp:∀j,j < k->p2 j=p j) (hl:∀i,i < m->∀c,l2 i c=l i c):kS a m k P p2 l2 d where
 km:=E.km
 d0:=E.d0
 unit i hi j hj:=by rw[hp j hj,hl i hi];exact E.unit i hi j hj
 inc i j hij hj:=by rw[hp i (by lia),hp j hj];exact E.inc i j hij hj
 low j hj:=by rw[hp j hj];exact E.low j hj
 zero i h1 h2 c hc:=by rw[hl i h2];exact E.zero i h1 h2 c hc
 lead j hj c hc:=by
  have km:=E.km;rw[hp j hj] at hc;rw[hl j (by lia)];exact E.lead j hj c hc
 there i hi:=(E.there i hi).rows hl
 back i hi:=(E.back i hi).congr λc=>(hl i hi c).symm
theorem kS.kP (E:kS a m k P p l d):k<=P:=by
 have:∀j,j < k->j<=p j:=by
  intro j
  induction j with
  | zero=>intro _;exact bJ _
  | succ j ih =>
   intro hj;have:=ih (by lia);have:=E.inc j (j+1) (by lia) hj
   lia
 rcases o6 k with z | z
 ·lia
 ·have h1:=this (k - 1) (by lia);have h2:=E.low (k - 1) (by lia)
  lia
end
structure yH (ls0:List (List Int)) (n P:Nat) (ls:List (List Int)) (ps:List Nat) (d:Int):Prop where
 len:ls.length=ls0.length
 wide:∀zs∈ls,zs.length=n
 bar:∃pm,xk (dX ls0) ls0.length ps.length pm (λj=>ps.getD j 0) (dX ls) d
 el:kS (dX ls0) ls0.length ps.length P (λj=>ps.getD j 0) (dX ls) d
section
variable {ls0 ls:List (List Int)} {n P:Nat} {ps:List Nat} {d:Int}
theorem yH.start (w:∀zs∈ls0,zs.length=n):yH ls0 n 0 ls0 [] 1:=⟨rfl,w,⟨λi=>i,xk.start λ_ _=>rfl⟩,kS.start⟩
theorem yH.d0 (h:yH ls0 n P ls ps d):d≠0:=λz=>h.el.d0 (by rw[z];rfl)
theorem yH.skip (h:yH ls0 n P ls ps d) (hz:∀i,ps.length<=i->i < ls.length->dX ls i P=0):yH ls0 n (P+1) ls ps d:=⟨h.len,h.wide,h.bar,h.el.skip λi h1 h2=>hz i h1 (by rw[h.len];exact h2)⟩
theorem getD_snoc (hj:j < l.length+1):(l++[x]).getD j 0=if j=l.length then x else l.getD j 0:=by
 rw[aa,aa];by_cases e:j=l.length
 ·rw[if_pos e,e,bV (av _),Nat.sub_self];rfl
 ·rw[if_neg e,cz (by lia)]
theorem yH.int (h:yH ls0 n P ls ps d) (hW:1<=W) (h0:∀i,i < ls0.length->∀c,Fr 1 W (dX ls0 i c)) (ht:ps.length<=t) (ht2:t < ls.length) (hne:dX ls t P≠0) :
  ∀i,i < ls.length->i≠ps.length->∀c,∃z:Int,(dX (lF ls ps.length t) ps.length P*dX (lF ls ps.length t) i c - dX (lF ls ps.length t) i P*dX (lF ls ps.length t) ps.length c) / (d:Rat)=(z:Rat):=λi hi ne c=>by
 obtain ⟨pm,B⟩:=h.bar;have hl:=h.len;have hk:ps.length < ls.length:=by lia
 have B1:=(B.swap ht (by lia)).congr (p2:=λj=>ps.getD j 0) (l2:=dX (lF ls ps.length t)) (λ_ _=>rfl) (λi _ c=>qB hk ht2 i c)
 have h1:dX (lF ls ps.length t) ps.length P≠0:=by
  rw[qB hk ht2];unfold rC;rw[if_pos rfl];exact hne
 have B2:=B1.step (c0:=P) (by lia) h1;have:=B2.fr (W:=W) (N:=ps.length+2) (by lia) hW h0 (i:=i) (c:=c) (by lia);rw[if_neg ne] at this;exact uX this
theorem yH.step (h:yH ls0 n P ls ps d) (hW:1<=W) (h0:∀i,i < ls0.length->∀c,Fr 1 W (dX ls0 i c)) (ht:ps.length<=t) (ht2:t < ls.length) (hne:dX ls t P≠0) :
  yH ls0 n (P+1) (A4 (lF ls ps.length t) ps.length P d) (ps++[P]) (((A4 (lF ls ps.length t) ps.length P d).getD ps.length []).getD P 0):=by
 obtain ⟨pm,B⟩:=h.bar;have hl:=h.len;have hk:ps.length < ls.length:=by lia
 have hz:=h.int hW h0 ht ht2 hne;have w1:=CV h.wide hk ht2;have k1:ps.length < (lF ls ps.length t).length:=by rw[rB];exact hk
 have B1:=(B.swap ht (by lia)).congr (p2:=λj=>ps.getD j 0) (l2:=dX (lF ls ps.length t)) (λ_ _=>rfl) (λi _ c=>qB hk ht2 i c);have E1:=(h.el.swap ht (by lia)).congr (p2:=λj=>ps.getD j 0) (l2:=dX (lF ls ps.length t)) (λ_ _=>rfl) (λi _ c=>qB hk ht2 i c)
 have h1:dX (lF ls ps.length t) ps.length P≠0:=by
  rw[qB hk ht2];unfold rC;rw[if_pos rfl];exact hne
 have B2:=B1.step (c0:=P) (by lia) h1
 have fc:∀i,i < ls0.length->∀c,dX (A4 (lF ls ps.length t) ps.length P d) i c=if i=ps.length then dX (lF ls ps.length t) ps.length c else (dX (lF ls ps.length t) ps.length P*dX (lF ls ps.length t) i c - dX (lF ls ps.length t) i P*dX (lF ls ps.length t) ps.length c) / (d:Rat):=λi hi c=>by
  by_cases e:i=ps.length
  ·rw[if_pos e];unfold dX A4;rw[nP (by rw[ak];exact k1),if_pos e]
  ·have:=Gr w1 k1 h.d0 (i:=i) (by rw[rB];lia) (hz i (by lia) e) c;rw[this]
 have ed:(((((A4 (lF ls ps.length t) ps.length P d).getD ps.length []).getD P 0:Int)):Rat)=dX (lF ls ps.length t) ps.length P:=by
  have:=fc ps.length (by lia) P;rw[if_pos rfl] at this;exact this
 have lp:(ps++[P]).length=ps.length+1:=by rw[ax];rfl
 have hp:∀j,j < ps.length+1->(ps++[P]).getD j 0=if j=ps.length then P else ps.getD j 0:=λj hj=>getD_snoc hj
 refine ⟨by rw[GN,rB];exact hl,DS w1 k1,⟨λi=>pm (rC ps.length t i),?_⟩,?_⟩
 ·rw[ed,lp];exact B2.congr hp fc
 ·rw[ed,lp];refine kS.congr (E1.step (d':=dX (lF ls ps.length t) ps.length P) (l':=λi c=>if i=ps.length then dX (lF ls ps.length t) ps.length c else (dX (lF ls ps.length t) ps.length P*dX (lF ls ps.length t) i c - dX (lF ls ps.length t) i P*dX (lF ls ps.length t) ps.length c) / (d:Rat)) (by lia) h1 B2.unit λi hi=>?_) hp fc;have d0:=h.el.d0;by_cases e:i=ps.length
  ·refine ⟨1,0,by decide,λ_=>rfl,λc=>?_⟩;rw[if_pos e,e];grind
  ·refine ⟨dX (lF ls ps.length t) ps.length P / (d:Rat),-(dX (lF ls ps.length t) i P) / (d:Rat),?_,λz=>absurd z e,λc=>?_⟩
   ·intro z;apply h1;grind
   ·rw[if_neg e];grind
theorem yH.sz (h:yH ls0 n P ls ps d) (hW:1<=W) (h0:∀i,i < ls0.length->∀c,Fr 1 W (dX ls0 i c)) (hP:P<=n) (hr:min ls0.length n<=r) (r15:r<=15):(d.natAbs<=(16*W)^r)/\∀zs∈ls,∀z∈zs,z.natAbs<=(16*W)^r:=by
 obtain ⟨pm,B⟩:=h.bar;have kP:=h.el.kP;have km:=B.km;have hl:=h.len;have mono:∀{s t:Nat},s<=t->(16*W)^s<=(16*W)^t:=λhs=>au (bN (by decide) hW) hs
 refine ⟨ai (sW (B.dfr (W:=W) (N:=16) (by lia) h0)) (mono (by lia)),λzs hz z hz'=>?_⟩;obtain ⟨i,hi,rfl⟩:=bM hz;obtain ⟨c,hc,rfl⟩:=bM hz';have hw:=h.wide _ (aK hi)
 have ez:dX ls i c=(((ls[i])[c]:Int):Rat):=by
  unfold dX;rw[aa (l:=ls),af hi];show ((ls[i].getD c 0:Int):Rat)=_
  rw[aa,af hc];rfl
 by_cases hk:i < ps.length
 ·have:Fr 1 ((16*W)^ps.length) (dX ls i c):=by
   have hd:=B.d0;rw[B.old hk]
   have:=wI (W:=W) (N:=16) (rs:=mF pm ps.length) (vs:=zO (λj r=>dX ls0 r (ps.getD j 0)) i ps.length++(λr=>dX ls0 r c) :: ie (λj r=>dX ls0 r (ps.getD j 0)) i) (by
    have:=congrArg List.length (cw_split (v:=λj r=>dX ls0 r (ps.getD j 0)) hk);rw[ax,bF,cw_len] at this;rw[ax,bF]
    lia) (by
    intro v hv r hr
    have hr':∀c,Fr 1 W (dX ls0 r c):=λc=>by
     obtain ⟨t,ht,rfl⟩:=kF hr;exact h0 _ (B.rng t (by lia)) c
    rcases az.mp hv with hv | hv
    ·obtain ⟨t,_,rfl⟩:=DQ hv;exact hr' _
    ·rcases aA.mp hv with rfl | hv
     ·exact hr' _
     ·obtain ⟨t,_,rfl⟩:=cw_in hv;exact hr' _)
   rwa [pF] at this
  rw[ez] at this;exact ai (sW this) (mono (by lia))
 ·by_cases hn:ps.length < n
  ·have:=B.fr (W:=W) (N:=16) (by lia) hW h0 (i:=i) (c:=c) (by lia);rw[ez] at this;exact ai (sW this) (mono (by lia))
  ·have:=h.el.zero i (by lia) (by lia) c (by lia);rw[ez] at this;rw[qP this];exact bJ _
end
def Tp (M W:Nat) (q:Rat):Prop:=∃z:Int,q*(M:Rat)=(z:Rat)/\z.natAbs<=W
theorem Tp.of {M V W:Nat} (h:Fr M V q) (hW:V*M<=W):Tp M W q:=by obtain ⟨z,a,b⟩:=h;exact ⟨z,a,ai b hW⟩
theorem Tp.mono (h:Tp M W q) (hW:W<=W'):Tp M W' q:=by obtain ⟨z,a,b⟩:=h;exact ⟨z,a,ai b hW⟩
def GV (rows:LR9) (n w:Nat):Prop:=∃M W:Nat,0 < M/\M<=2^4300/\1<=W/\W<=2^w/\(∀xs∈rows,∀x∈xs,Tp M W x)/\w<=4300/\min rows.length n<=15/\min rows.length n*(w+4)<=8900
def jl (xs:List Rat):List Int:=c7 (xs.map nm) (dN (xs.map nm))
theorem pX:(jl xs).length=xs.length:=by unfold jl c7;rw[ak,ak]
theorem wX {xs:List Rat}:0 < dN (xs.map nm):=wy (by decide) λb hb=>by
 obtain ⟨n,hn,rfl⟩:=ay.mp hb;obtain ⟨x,_,rfl⟩:=ay.mp hn;exact gA x
theorem HX:(((jl xs).getD c 0:Int):Rat)=xs.getD c 0*((dN (xs.map nm):Int):Rat):=by
 unfold jl c7;rw[aa,aa,aB,aB];cases e:xs[c]? with
 | none=>show ((0:Int):Rat)=0*_;rw[D6];rfl
 | some x=>exact mR (nY (ay.mpr ⟨x,ar e,rfl⟩))
section
variable {rows:LR9} {n w i c:Nat} {xs:List Rat}
theorem zZ (hi:i < rows.length):dX (rows.map jl) i c=((dN ((rows.getD i []).map nm):Int):Rat)*cY rows i c:=by
 unfold dX cY
 have e:(rows.map jl).getD i []=jl (rows.getD i []):=by
  rw[aa,aa,aB,af hi];rfl
 rw[e,HX,eO]
theorem Cv (hw:∀xs∈rows,xs.length=n) (hc:n<=c):cY rows i c=0:=by
 unfold cY;by_cases h:i < rows.length
 ·have:=hw _ (getD_in (e:=[]) h);rw[aa (l:=rows.getD i []),aW (by lia)];rfl
 ·rw[aa (l:=rows),aW (by lia)];rfl
theorem CN (i:Nat) (hi:i < rows.length):fJ rows.length (dX (rows.map jl)) (cY rows i):=by
 have h0:((dN ((rows.getD i []).map nm):Int):Rat)≠0:=λz=>by
  have:=wX (xs:=rows.getD i []);have:=qP z
  lia
 refine fJ.congr (λc=>?_) (fJ.lin (1 / ((dN ((rows.getD i []).map nm):Int):Rat)) 0 (fJ.row (a:=dX (rows.map jl)) hi) (fJ.row (a:=dX (rows.map jl)) hi));rw[zZ hi];grind
theorem CM (i:Nat) (hi:i < rows.length):fJ rows.length (cY rows) (dX (rows.map jl) i):=by
 refine fJ.congr (λc=>?_) (fJ.lin ((dN ((rows.getD i []).map nm):Int):Rat) 0 (fJ.row (a:=cY rows) hi) (fJ.row (a:=cY rows) hi));rw[zZ hi];grind
theorem o7 (h:Tp M W x):(nm x).2∣(M:Int):=by
 obtain ⟨z,e,b⟩:=h
 exact Fr.den (V:=z.natAbs) (M:=M) ⟨z,e,by
  rcases o6 M with h | h
  ·subst h;have:(z:Rat)=0:=by rw[<- e];simp
   rw[qP this];simp
  ·exact cT _ h⟩
theorem vg (h:Tp M W x) (h0:0 < M) (hB:0 < B) (d1:(nm x).2∣B) (d2:B∣(M:Int)):∃t:Int,x*(B:Rat)=(t:Rat)/\t.natAbs<=W:=by
 obtain ⟨z,e,b⟩:=h;obtain ⟨s,es⟩:=d2;refine ⟨(nm x).1*(B / (nm x).2),(mR d1).symm,?_⟩
 have s0:0 < s:=by
  rcases Int.lt_trichotomy s 0 with h | h | h
  ·have:=Int.mul_neg_of_pos_of_neg hB h
   lia
  ·rw[h] at es;lia
  ·exact h
 have e2:(((nm x).1*(B / (nm x).2)*s:Int):Rat)=(z:Rat):=by
  rw[aR,mR d1,<- e,<- a7,es,aR];grind
 have e3:=dj.mp e2;have:((nm x).1*(B / (nm x).2)).natAbs*s.natAbs=z.natAbs:=by rw[<- di,e3]
 have h1:1<=s.natAbs:=by lia
 have:=cT ((nm x).1*(B / (nm x).2)).natAbs h1
 lia
theorem DU (h0:0 < M) (h:∀x∈xs,Tp M W x):dN (xs.map nm)∣(M:Int):=uU (by decide) (Int.one_dvd _) λb hb=>by
 obtain ⟨n,hn,rfl⟩:=ay.mp hb;obtain ⟨x,hx,rfl⟩:=ay.mp hn;exact ⟨gA x,o7 (h x hx)⟩
theorem GV.rowM (F:GV rows n w) (hx:xs∈rows):∃M,Bn M (xs.map nm):=by
 obtain ⟨M,W,h0,h1,hW,h2,h3,h4,_⟩:=F;refine ⟨M,by lia,?_,λy hy=>?_⟩
 ·show ((M:Nat):Int).natAbs < 2^4400
  rw[cF];exact be h1 (cU (by decide) (by decide))
 ·obtain ⟨x,hx',rfl⟩:=ay.mp hy;have t:=h3 xs hx x hx';refine ⟨gA x,o7 t,?_⟩;obtain ⟨s,e,b⟩:=vg t h0 (gA x) (Ed _) (o7 t);have e2:(((nm x).1:Int):Rat)=(s:Rat):=by rw[<- e];exact iC x
  rw[dj.mp e2];exact be (ai b h2) (cU (by decide) (by lia))
theorem GV.ent (F:GV rows n w):∃W:Nat,1<=W/\W<=2^w/\∀i,i < (rows.map jl).length->∀c,Fr 1 W (dX (rows.map jl) i c):=by
 obtain ⟨M,W,h0,h1,hW,h2,h3,h4,_⟩:=F;refine ⟨W,hW,h2,λi hi c=>?_⟩;rw[ak] at hi;have hx:=getD_in (e:=[]) hi;rw[zZ hi];unfold cY;generalize rows.getD i []=xs at hx ⊢;by_cases hc:c < xs.length
 ·have t:=h3 xs hx _ (getD_in (e:=0) hc);obtain ⟨s,e,b⟩:=vg t h0 (wX (xs:=xs)) (nY (ay.mpr ⟨_,getD_in (e:=0) hc,rfl⟩)) (DU h0 (h3 xs hx));rw[eO,e];exact Fr.int b
 ·rw[aa,aW (by lia)];show Fr 1 W (_*0)
  rw[gM];exact Fr.zero
end
def eZ (rows:LR9) (n:Nat) (R:LR9) (ps:List Nat):Prop:=R.length=ps.length/\(∀xs∈R,xs.length=n)/\Bm rows.length n (cY rows) ps.length (λj=>ps.getD j 0) (cY R)
structure Nl (rows:LR9) (n w:Nat) (R:LR9) (ps:List Nat) (d:Int) (ls:List (List Int)):Prop where
 rr:eZ rows n R ps
 d0:d≠0
 len:ls.length=ps.length
 wide:∀zs∈ls,zs.length=n
 val:∀i c,dX ls i c=(d:Rat)*cY R i c
 dsz:d.natAbs<=2^(min rows.length n*(w+4))
 zsz:∀zs∈ls,∀z∈zs,z.natAbs<=2^(min rows.length n*(w+4))
 tp:∀xs∈R,∀x∈xs,Tp d.natAbs (2^(min rows.length n*(w+4))) x
 km:ps.length<=rows.length
theorem Bm.congrR {a R R2:Nat->Nat->Rat} (h:Bm m n a k p R) (hr:∀i,i < k->∀c,R2 i c=R i c):Bm m n a k p R2 :=
 ⟨h.inc,h.low,λi hi j hj=>by rw[hr i hi];exact h.unit i hi j hj,λi hi c hc=>by rw[hr i hi];exact h.lead i hi c hc,λi hi=>(h.span i hi).rows hr,λi hi=>(h.back i hi).congr λc=>(hr i hi c).symm⟩
theorem Bm.other (h:Bm m n a k p R) (s1:∀i,i < m->fJ m' a' (a i)) (s2:∀i,i < m'->fJ m a (a' i)):Bm m' n a' k p R :=
 ⟨h.inc,h.low,h.unit,h.lead,λi hi=>fJ.trans h.span (s2 i hi),λi hi=>fJ.trans s1 (h.back i hi)⟩
theorem BV (h:W<=2^w):(16*W)^r<=2^(r*(w+4)):=by
 calc (16*W)^r<=(2^(w+4))^r:=Nat.pow_le_pow_left (by rw[aE];lia) _
  _=2^(r*(w+4)):=by rw[<- GX,cH]
theorem yH.done (h:yH (rows.map jl) n n ls ps d) (hw:∀xs∈rows,xs.length=n) (F:GV rows n w) :
  ∃R,Nl rows n w R ps d (ls.take ps.length):=by
 obtain ⟨W,hW,W2,ent⟩:=F.ent;obtain ⟨_,_,_,_,_,_,_,_,r15,_⟩:=F;have hl:=h.len;have d0:=h.d0;have d0':(d:Rat)≠0:=λz=>d0 (qP z)
 have km:=h.el.km;have hm:(rows.map jl).length=rows.length:=ak ..;obtain ⟨s1,s2⟩:=h.sz (r:=min rows.length n) hW ent (av _) (by rw[hm];exact av _) r15;have s2':∀zs∈ls,∀z∈zs,z.natAbs<=2^(min rows.length n*(w+4)):=λzs hz z hz'=>ai (s2 zs hz z hz') (BV W2)
 have er:∀i c,cY ((ls.take ps.length).map λzs=>zs.map λ(z:Int)=>(z:Rat) / (d:Rat)) i c=dX (ls.take ps.length) i c / (d:Rat):=λi c=>by
  unfold cY dX;rw[aa (l:=List.map _ _),aB,aa (l:=List.take _ _)];cases e:(ls.take ps.length)[i]? with
  | none=>show (0:Rat)=((0:Int):Rat) / _;grind
  | some zs =>
   show (zs.map λ(z:Int)=>(z:Rat) / (d:Rat)).getD c 0=((zs.getD c 0:Int):Rat) / (d:Rat)
   rw[aa,aa,aB];cases e2:zs[c]? with
   | none=>show (0:Rat)=((0:Int):Rat) / _;grind
   | some z=>rfl
 have et:∀i,i < ps.length->∀c,dX (ls.take ps.length) i c=dX ls i c:=λi hi c=>by
  unfold dX;rw[aa (l:=List.take _ _),jy hi,<- aa]
 have RR:=(h.el.done λi hi c hc=>wD (n:=n) (λzs hz=>by
  obtain ⟨xs,hx,rfl⟩:=ay.mp hz;rw[pX];exact hw xs hx) hc).congrR (R2:=cY ((ls.take ps.length).map λzs=>zs.map λ(z:Int)=>(z:Rat) / (d:Rat))) λi hi c=>by rw[er,et i hi]
 rw[hm] at RR;refine ⟨(ls.take ps.length).map λzs=>zs.map λ(z:Int)=>(z:Rat) / (d:Rat),⟨by rw[ak,bX];lia,λxs hx=>?_,RR.other CM CN⟩,d0,by rw[bX];lia,λzs hz=>h.wide zs (bS hz),λi c=>?_,ai s1 (BV W2),λzs hz=>s2' zs (bS hz),λxs hx x hx'=>?_,by lia⟩
 ·obtain ⟨zs,hz,rfl⟩:=ay.mp hx;rw[ak];exact h.wide zs (bS hz)
 ·rw[er];grind
 ·obtain ⟨zs,hz,rfl⟩:=ay.mp hx;obtain ⟨z,hz',rfl⟩:=ay.mp hx';have b:=s2' zs (bS hz) z hz';rcases Int.natAbs_eq d with e | e
  ·refine ⟨z,?_,b⟩;have:((d.natAbs:Nat):Rat)=(d:Rat):=by rw[<- a7,<- e]
   rw[this];grind
  ·refine ⟨-z,?_,by rw[yM];exact b⟩;have:((d.natAbs:Nat):Rat)=-(d:Rat):=by rw[<- a7,<- ib];congr 1;lia
   rw[this,ib];grind
theorem Lf (hl:R.length=R'.length) (w1:∀xs∈R,xs.length=n) (w2:∀xs∈R',xs.length=n) (h:∀i,i < R.length->∀c,cY R i c=cY R' i c):R=R':=by
 apply gv hl;intro i h1 h2;apply gv (by rw[w1 _ (aK h1),w2 _ (aK h2)]);intro c h3 h4;have:=h i h1 c;unfold cY at this;rw[aa (l:=R),aa (l:=R'),af h1,af h2] at this;have this:(R[i]).getD c 0=(R'[i]).getD c 0:=this;rw[aa,aa,af h3,af h4] at this;exact this
theorem eZ.uniq (h:eZ rows n R ps) (h':eZ rows' n R' ps') (s1:∀i,i < rows.length->fJ rows'.length (cY rows') (cY rows i)) (s2:∀i,i < rows'.length->fJ rows.length (cY rows) (cY rows' i)):R=R'/\ps=ps':=by
 obtain ⟨l1,w1,r1⟩:=h;obtain ⟨l2,w2,r2⟩:=h';obtain ⟨ek,ep,eR⟩:=r1.uniq r2 s1 s2;refine ⟨Lf (by lia) w1 w2 λi hi c=>eR i (by lia) c,?_⟩;apply gv ek;intro j h1 h2;have:=ep j h1;rw[aa,aa,af h1,af h2] at this;exact this
theorem eZ.same (h:eZ rows n R ps) (h':eZ rows n R' ps'):R=R'/\ps=ps':=h.uniq h' (λ_ hi=>fJ.row hi) (λ_ hi=>fJ.row hi)
open PySem PySem.Spec PyProof.Rows
def D4 (l:Addr) (H:Hp) (zs:List Int) (v:V):Prop:=∃q,v=V.ref q/\q≠l/\H q=some (.lst (zs.map V.int))
def og (l:Addr) (H:Hp) (p:Addr) (ls:List (List Int)):Prop:=p≠l/\∃xs,H p=some (.lst xs)/\Paired (D4 l H) ls xs
theorem D4.same (h:D4 l H zs v) (e:aH H H'):D4 l H' zs v:=by obtain ⟨q,a,n,b⟩:=h;exact ⟨q,a,n,e _ _ b⟩
theorem D4.upd {l:Addr} {H:Hp} {zs:List Int} {v:V} {o:HO} (h:D4 l H zs v):D4 l (upd H l o) zs v:=by obtain ⟨q,a,n,b⟩:=h;exact ⟨q,a,n,by rw[br n];exact b⟩
theorem og.upd {l:Addr} {H:Hp} {p:Addr} {ls:List (List Int)} {o:HO} (h:og l H p ls):og l (upd H l o) p ls:=by obtain ⟨n,xs,a,b⟩:=h;exact ⟨n,xs,by rw[br n];exact a,Paired.imp' (λ_ _ z=>z.upd) b⟩
theorem ne_old {H:Hp} (h:H l≠none) (n:H r=none):r≠l:=λz=>h (by rw[<- z];exact n)
theorem iV {α β:Type} {F:α->β->Prop}:∀{l1:List α} {l2:List β} (_:Paired F l1 l2) (i:Nat) {x:α} {y:β},F x y->Paired F (l1.set i x) (l2.set i y)
 | _,_,.nil,_,_,_,_=>.nil
 | _,_,.cons _ r,0,_,_,h=>.cons h r
 | _,_,.cons a r,i+1,_,_,h=>.cons a (iV r i h)
theorem Kc (h:ls[i]?=some zs):dX ls i c=((zs.getD c 0:Int):Rat):=by
 unfold dX;rw[aa (l:=ls),h];rfl
theorem MQ:((z:Int):Rat)≠0↔z≠0:=⟨λh e=>h (by rw[e];rfl),λh e=>h (qP e)⟩
theorem xI {zs:List Int} (h:c < zs.length):CA (zs.map V.int) (c:Int)=some (V.int (zs.getD c 0)):=fF (by rw[aB,aa,af h];rfl)
inductive xY (vs:List V) (H:Hp) (Q:VK) (E9:XK):Prop
 | mk (l p:Addr) (ls:List (List Int)) (b c:Nat):vs=[.ref p,.int b,.int c]->og l H p ls->ls.length<=1000->b<=1000->(∀zs∈ls,c < zs.length)->(∀t:Nat,b<=t->t < ls.length->dX ls t c≠0->Q (.int t) H)->((∀t,b<=t->t < ls.length->dX ls t c=0)->Q .non H)->xY  vs H Q E9
inductive tG (vs:List V) (H:Hp) (Q:VK) (E9:XK):Prop
 | mk (l p:Addr) (ls:List (List Int)) (t k:Nat):vs=[.ref p,.int t,.int k]->H l≠none->og l H p ls->ls.length<=1000->t < ls.length->k < ls.length->(∀r H',H r=none->aH H H'->og l H' r (lF ls k t)->Q (.ref r) H')->tG  vs H Q E9
inductive xZ (vs:List V) (H:Hp) (Q:VK) (E9:XK):Prop
 | mk (l p:Addr) (ls:List (List Int)) (k c n:Nat) (b:Int):vs=[.ref p,.int k,.int c,.int b]->H l≠none->og l H p ls->ls.length<=1000->k < ls.length->(∀zs∈ls,zs.length=n)->n<=1000->c < n->b≠0->Sz 8999 b->(∀zs∈ls,∀z∈zs,Sz 8999 z)->(∀r H',H r=none->aH H H'->og l H' r (A4 ls k c b)->Q (.ref r) H')->xZ  vs H Q E9
theorem FL (K:FG9) {X:Cx} {a b:Expr} {ta:TA} {p pos tpos:Pos} {elts:List Expr} {kk:Nat} (hg:Gl X "zip") (hm:X.mg "zip"=none) (ha:PA X [a,b] ta) (hK:X.K=K:=by rfl) (hs:starEach [a,b] X.env=[(false,eval a X.env),(false,eval b X.env)]:=by rfl) (hs2:starEach [b] X.env=[(false,eval b X.env)]:=by rfl) :
  PI X (.Tuple elts kk tpos) (.Call (.Name "zip" p) [a,b] [] pos) (La K ta):=by subst hK;exact ow hg hm ha hs hs2
def ka (ps:List Nat):List V:=ps.map λ(j:Nat)=>V.int (j:Int)
inductive xP (K:FG9) (vs:List V) (H:Hp) (Q:VK) (E9:XK):Prop
 | mk (p:Addr) (n w:Nat) (H0:Hp) (rows:LR9):vs=[.ref p,.int n]->bR K H0 H p rows->rows.length<=100->n<=100->(∀xs∈rows,xs.length=n)->GV rows n w->(∀t lp qp R ps d ls H',H' t=some (.tup [.ref lp,.ref qp])->H' qp=some (.lst (ka ps))->og qp H' lp ls->aH H H'->Nl rows n w R ps d ls->Q (.ref t) H')->xP K vs H Q E9
def GQ (rows:LR9) (i:Nat):Rat:=((dN ((rows.getD i []).map nm):Int):Rat)
section
variable {rows rs rs':LR9} {n P w a:Nat} {ps:List Nat}
end
theorem fg (h:Tp M W x) (h0:0 < M) (h1:M<=2^3995) (h2:W<=2^3995):gL x:=by
 refine ⟨?_,?_⟩
 ·obtain ⟨s,e,b⟩:=vg h h0 (gA x) (Ed _) (o7 h);have e2:(((nm x).1:Int):Rat)=(s:Rat):=by rw[<- e];exact iC x
  rw[dj.mp e2];exact be (ai b h2) (cU (by decide) (by decide))
 ·have:=jx h0 (uK.mp (o7 h));show ((x.den:Nat):Int).natAbs < _
  rw[cF];exact be (ai this h1) (cU (by decide) (by decide))
theorem Tp.mul (h:Tp M W x) (h':Tp M' W' y):Tp (M*M') (W*W') (x*y):=by
 obtain ⟨z,e,b⟩:=h;obtain ⟨z',e',b'⟩:=h';refine ⟨z*z',?_,by rw[di];exact aF b b'⟩;rw[aR,<- e,<- e',jJ];grind
inductive rE (K:FG9) (vs:List V) (H:Hp) (Q:VK) (E9:XK):Prop
 | mk (p q:Addr) (xs ys:List Rat):vs=[.ref p,.ref q]->cx K H p xs->cx K H q ys->ys.length=xs.length->xs.length<=1000->(∀x∈xs,gL x)->(∀y∈ys,gL y)->(∀r H',H r=none->aH H H'->cx K H' r (List.zipWith (λx y=>x - y) xs ys)->Q (.ref r) H')->rE K vs H Q E9
theorem BD {xs ys:List Rat} (h:ys.length=xs.length):List.zipWith (λx y=>x - y) xs ys=(List.range xs.length).map λi=>xs.getD i 0 - ys.getD i 0:=by
 apply iO;intro i;rw[bx,aB];by_cases hi:i < xs.length
 ·rw[cO hi,af hi,af (show i < ys.length by lia)];simp [aa,af hi,af (show i < ys.length by lia)]
 ·rw[aW (show (List.range xs.length).length<=i by simp;lia),aW (show xs.length<=i by lia)];rfl
theorem ET {K:FG9} {rows:LR9} (pr:Paired (dA K H0 H) rows vs) (s:aH H H') (n:H q=none) (g:H' q=some (.lst vs)):bR K H0 H' q rows :=
 ⟨vs,g,Paired.imp' (λ_ _ z=>z.same s) pr,λz=>by
  obtain ⟨_,_,q',e,_,_,g',_⟩:=cP pr z;cases e;rw[n] at g';cases g'⟩
theorem eZ.le (h:eZ rows n R ps):ps.length<=n:=by
 obtain ⟨_,_,rr⟩:=h;rcases gN n ps.length with z | z
 ·have inc:∀j,j < ps.length->j<=ps.getD j 0:=by
   intro j
   induction j with
   | zero=>intro _;exact bJ _
   | succ j ih =>
    intro hj;have:=ih (by lia);have:=rr.inc j (j+1) (by lia) hj
    lia
  have h1:=inc (ps.length - 1) (by lia);have h2:=rr.low (ps.length - 1) (by lia)
  lia
 ·exact z
theorem Tp.zero:Tp M W 0:=⟨0,by simp,by simp⟩
theorem Tp.add (h:Tp M W x) (h':Tp M W' y):Tp M (W+W') (x+y):=by
 obtain ⟨z,e,b⟩:=h;obtain ⟨z',e',b'⟩:=h';refine ⟨z+z',?_,ai (Int.natAbs_add_le _ _) (Nat.add_le_add b b')⟩;rw[xl,<- e,<- e'];grind
theorem Tp.sum {M W:Nat} {f:Nat->Rat}:∀{k:Nat},(∀j,j < k->Tp M W (f j))->Tp M (k*W) (bH k f)
 | 0,_=>Tp.zero
 | k+1,h=>by
  have:=(Tp.sum (k:=k) λj hj=>h j (by lia)).add (h k (by lia));exact this.mono (by rw[fG];exact av _)
theorem jb {xs:List Rat} (h:∀x∈xs,Tp M W x) (c:Nat):Tp M W (xs.getD c 0):=by
 by_cases hc:c < xs.length
 ·exact h _ (getD_in hc)
 ·rw[aa,aW (by lia)];exact Tp.zero
theorem LF (h:∀xs∈R,∀x∈xs,Tp M W x) (i c:Nat):Tp M W (cY R i c):=by
 unfold cY;by_cases hi:i < R.length
 ·exact jb (h _ (getD_in hi)) c
 ·rw[aa (l:=R),aW (by lia)];exact Tp.zero
theorem F9 {j:Nat}:MK (.int (j:Int)) (ka ps)=decide (j∈ps):=by
 unfold MK ka;rw[List.any_map,jK,List.any_eq_true,decide_eq_true_iff];constructor
 ·rintro ⟨x,hx,e⟩;have e:((x:Int) == (j:Int))=true:=e;have:(x:Int)=j:=by simpa using e
  have:x=j:=by lia
  rw[<- this];exact hx
 ·intro h;exact ⟨j,h,by show ((j:Int) == (j:Int))=true;simp⟩
theorem EJ:(ka ps).all qC=true:=by
 unfold ka;rw[List.all_map];exact lE.mpr λ_ _=>rfl
theorem FW:(ka ps).length=ps.length:=ak ..
theorem Je {i:Nat} (h:(ka ps)[i]?=some v):∃j,ps[i]?=some j/\v=V.int (j:Int):=by
 unfold ka at h;rw[aB] at h;cases e:ps[i]? with
 | none=>rw[e] at h;cases h
 | some x=>rw[e] at h;exact ⟨x,rfl,(bY h).symm⟩
section
variable {R rows:LR9} {ps:List Nat} {n a j:Nat}
theorem dD:∀{xs ys:List Rat},xs.length=ys.length->bI xs ys=bH xs.length λc=>xs.getD c 0*ys.getD c 0:=by
 intro xs ys h
 have key:∀k,k<=xs.length->bI (xs.take k) (ys.take k)=bH k λc=>xs.getD c 0*ys.getD c 0:=by
  intro k
  induction k with
  | zero=>intro _;rfl
  | succ k ih =>
   intro hk;rw[sX (by lia) (by lia),ih (by lia)];rfl
 have:=key xs.length (av _);rwa [aD (av _),aD (by lia)] at this
end
theorem Jr {q:Rat} (h:q.den<=9):q.den∣2520:=by
 have:=q.den_pos;generalize q.den=d at h this;have:d=1\/d=2\/d=3\/d=4\/d=5\/d=6\/d=7\/d=8\/d=9:=by lia
 rcases this with rfl | rfl | rfl | rfl | rfl | rfl | rfl | rfl | rfl <;> decide
theorem wK (h:Dr 9 q) (hM:2520∣M):Fr M 9 q:=(Fr.own q h.1).dvd (Bs (Jr h.2) hM)
def eI (rows:LR9) (due:List Rat):LR9:=List.zipWith (λrow d=>row++[d]) rows due
def p0 (R:LR9) (ps:List Nat) (n j:Nat):List Rat:=(List.range n).map λc=>bH j λi=>if ps.getD i 0=c then cY R i n else 0
def j5 (R:LR9) (ps:List Nat) (n:Nat):List Rat:=p0 R ps n ps.length
section
variable {rows R:LR9} {due xs:List Rat} {ps:List Nat} {n j:Nat}
theorem nO (h:due.length=rows.length):(eI rows due).length=rows.length:=by unfold eI;rw[bg];lia
theorem Jf (h:∀xs∈rows,xs.length=n):∀xs∈eI rows due,xs.length=n+1:=λxs hx=>by
 unfold eI at hx;obtain ⟨i,hi,rfl⟩:=bM hx;rw[fH,ax,h _ (aK _)];rfl
theorem JR {i:Nat} (h1:rows[i]?=some row) (h2:due[i]?=some d):(eI rows due)[i]?=some (row++[d]):=by
 unfold eI;rw[bx,h1,h2]
theorem yh (hd:due.length=rows.length) (hw:∀xs∈rows,xs.length=n) (hi:i < rows.length):(∀c,c < n->cY (eI rows due) i c=cY rows i c)/\cY (eI rows due) i n=due.getD i 0:=by
 have e1:=af hi;have e2:=af (show i < due.length by lia);have ej:=JR e1 e2;have wi:=hw _ (aK hi);refine ⟨λc hc=>?_,?_⟩
 ·unfold cY;rw[aa (l:=eI rows due),ej,aa (l:=rows),e1];show (rows[i]++[due[i]]).getD c 0=(rows[i]).getD c 0
  rw[aa,aa,cz (by lia)]
 ·unfold cY;rw[aa (l:=eI rows due),ej,aa (l:=due),e2];show (rows[i]++[due[i]]).getD n 0=due[i]
  rw[aa,bV (by lia),wi,Nat.sub_self];rfl
theorem jM:(p0 R ps n j).length=n:=by unfold p0;rw[ak,cm]
theorem Fw (h:c < n):(p0 R ps n j).getD c 0=bH j λi=>if ps.getD i 0=c then cY R i n else 0:=by
 unfold p0;rw[aa,aB,cO h];rfl
theorem Ii:p0 R ps n 0=List.replicate n 0:=by
 unfold p0;show (List.range n).map (λ_=>(0:Rat))=_
 rw[mO,cm]
theorem Ij (RR:eZ J (n+1) R ps) (hj:j < ps.length):(p0 R ps n j).set (ps.getD j 0) (cY R j n)=p0 R ps n (j+1):=by
 obtain ⟨_,_,rr⟩:=RR;apply gv (by rw[dM,jM,jM]);intro c h1 h2;rw[jM] at h2;have e1:(p0 R ps n j)[c]'(by rw[jM];exact h2)=bH j λi=>if ps.getD i 0=c then cY R i n else 0:=by simp only[p0,lD,List.getElem_range]
 have e2:(p0 R ps n (j+1))[c]'(by rw[jM];exact h2)=bH j (λi=>if ps.getD i 0=c then cY R i n else 0)+if ps.getD j 0=c then cY R j n else 0:=by simp only[p0,lD,List.getElem_range];rfl
 rw[List.getElem_set,e2];by_cases q:ps.getD j 0=c
 ·rw[if_pos q,if_pos q,c4 λi hi=>?_,Rat.zero_add];rw[if_neg];intro z;have:=rr.inc i j hi hj
  lia
 ·rw[if_neg q,if_neg q,e1,va]
theorem Ik (hp:c∉ps):(j5 R ps n).getD c 0=0:=by
 by_cases hc:c < n
 ·unfold j5;rw[Fw hc,c4 λi hi=>?_];rw[if_neg (λz=>hp (by rw[<- z];exact getD_in hi))]
 ·rw[aa,aW (by unfold j5;rw[jM];lia)];rfl
theorem Kn (hd:due.length=rows.length) (hw:∀xs∈rows,xs.length=n) (RR:eZ (eI rows due) (n+1) R ps) (hn:n∉ps) (hr:rows[i]?=some row):bI row (j5 R ps n)=due.getD i 0:=by
 obtain ⟨_,_,rr⟩:=RR;have hi:=(aV.mp hr).1;have wr:=hw row (ar hr);have ef:∀c,cY rows i c=row.getD c 0:=λc=>by unfold cY;rw[aa (l:=rows),hr];rfl
 obtain ⟨f1,f2⟩:=yh hd hw hi
 have low:∀j,j < ps.length->ps.getD j 0 < n:=λj hj=>by
  have:=rr.low j hj;have:ps.getD j 0≠n:=λz=>hn (by rw[<- z];exact getD_in hj)
  lia
 have co:=rr.coef (rr.span i (by rw[nO hd];exact hi)) n;rw[f2] at co;rw[co,dD (by unfold j5;rw[jM,wr]),wr]
 have e1:bH n (λc=>row.getD c 0*(j5 R ps n).getD c 0)=bH n (λc=>bH ps.length λj=>if ps.getD j 0=c then row.getD (ps.getD j 0) 0*cY R j n else 0):=by
  refine aZ λc hc=>?_
  unfold j5;rw[Fw hc,<- cQ];refine aZ λj _=>?_
  split
  ·rename_i q;rw[q]
  ·grind
 rw[e1,<- gX];refine aZ λj hj=>?_
 rw[ig (i:=ps.getD j 0) (low j hj) λc _ ne=>if_neg λz=>ne z.symm,if_pos rfl,f1 _ (low j hj),ef]
theorem Fv (hd:due.length=rows.length) (hw:∀xs∈rows,xs.length=n) (RR:eZ (eI rows due) (n+1) R ps) (hn:n∈ps):∃w:Nat->Rat,(∀c,c < n->bH rows.length (λi=>w i*cY rows i c)=0)/\bH rows.length (λi=>w i*due.getD i 0)=1:=by
 obtain ⟨_,_,rr⟩:=RR;obtain ⟨j,hj,ej⟩:=bM hn;have ejD:ps.getD j 0=n:=by rw[aa,af hj];exact ej
 obtain ⟨w,hw'⟩:=rr.back j hj;rw[nO hd] at hw';refine ⟨w,λc hc=>?_,?_⟩
 ·have z:=rr.lead j hj c (by rw[ejD];exact hc);rw[hw' c] at z;rw[<- z];exact aZ λi hi=>by rw[(yh hd hw hi).1 c hc]
 ·have u:=rr.unit j hj j hj;rw[if_pos rfl,ejD,hw' n] at u;rw[<- u];exact aZ λi hi=>by rw[(yh hd hw hi).2]
theorem LX (h0:0 < M) (tp:∀xs∈R,∀x∈xs,Tp M W x) (RR:eZ J (n+1) R ps):∀x∈j5 R ps n,Tp M W x:=λx hx=>by
 obtain ⟨_,_,rr⟩:=RR;obtain ⟨c,hc,rfl⟩:=ay.mp hx;by_cases hp:∃j,j < ps.length/\ps.getD j 0=c
 ·obtain ⟨j,hj,e⟩:=hp;rw[ig hj λi hi ne=>if_neg λz=>?_,if_pos e]
  ·exact LF tp j n
  ·rcases rh i j with q | q | q
   ·have:=rr.inc i j q hj;lia
   ·exact ne q
   ·have:=rr.inc j i q hi;lia
 ·rw[c4 λj hj=>if_neg λz=>hp ⟨j,hj,z⟩];exact Tp.zero
end
inductive vn (K:FG9) (vs:List V) (H:Hp) (Q:VK) (E9:XK):Prop
 | mk (p q:Addr) (n w:Nat) (H0:Hp) (rows:LR9) (due:List Rat):vs=[.ref p,.int n,.ref q]->bR K H0 H p rows->cx K H q due->due.length=rows.length->rows.length<=99->n<=99->(∀xs∈rows,xs.length=n)->GV (eI rows due) (n+1) w->((∀x R ps M H',eZ (eI rows due) (n+1) R ps->n∉ps->H x=none->aH H H'->cx K H' x (j5 R ps n)->0 < M->M<=2^(min rows.length (n+1)*(w+4))->(∀y∈j5 R ps n,Tp M (2^(min rows.length (n+1)*(w+4))) y)->Q (.ref x) H')/\(∀R ps H',eZ (eI rows due) (n+1) R ps->n∈ps->aH H H'->Q .non H'))->vn K vs H Q E9
theorem F2:((List.range n).map λ_=>(0:Rat))=List.replicate n 0:=by rw[mO,cm]
def Kl (K:FG9):Sp:=λvs H Q _=>∃m:Nat,vs=[.int m]/\m<=100/\∀r H',H r=none->aH H H'->cx K H' r (List.replicate m 0)->Q (.ref r) H'
section
variable {rows:LR9} {ws xs row:List Rat} {n j:Nat}
theorem pV (hc:c < n):(cJ rows n)[c]?=some (rows.map λxs=>xs.getD c 0):=by
 unfold cJ;rw[aB,cO hc];rfl
end
theorem Fr.up {M V M' V':Nat} (h:Fr M V x) (hd:M∣M') (hv:V<=V'):Fr M' V' x:=(h.dvd hd).mono hv
section
variable {rows R:LR9} {due:List Rat} {ps:List Nat} {n:Nat}
theorem GI (hd:due.length=rows.length) (hw:∀xs∈rows,xs.length=n) (RR:eZ (eI rows due) (n+1) R ps) (hn:n∉ps):eZ rows n (R.map λxs=>xs.take n) ps:=by
 obtain ⟨l1,w1,rr⟩:=RR
 have low:∀j,j < ps.length->ps.getD j 0 < n:=λj hj=>by
  have:=rr.low j hj;have:ps.getD j 0≠n:=λz=>hn (by rw[<- z];exact getD_in hj)
  lia
 have ef:∀i c,c < n->cY (R.map λxs=>xs.take n) i c=cY R i c:=λi c hc=>by
  unfold cY;rw[aa (l:=List.map _ R),aB,aa (l:=R)];cases R[i]? with
  | none=>rfl
  | some xs =>
   show (xs.take n).getD c 0=xs.getD c 0
   rw[aa,aa,jy hc]
 have wT:∀xs∈R.map (λxs=>xs.take n),xs.length=n:=λxs hx=>by
  obtain ⟨y,hy,rfl⟩:=ay.mp hx;rw[bX,w1 y hy]
  lia
 have far:∀i c,n<=c->cY (R.map λxs=>xs.take n) i c=0:=λi c hc=>Cv wT hc
 refine ⟨by rw[ak];exact l1,wT,rr.inc,low,λi hi j hj=>?_,λi hi c hc=>?_,λi hi=>?_,λi hi=>?_⟩
 ·rw[ef i _ (low j hj)];exact rr.unit i hi j hj
 ·have:=low i hi;rw[ef i c (by lia)];exact rr.lead i hi c hc
 ·obtain ⟨w,hw'⟩:=rr.span i (by rw[nO hd];exact hi);refine ⟨w,λc=>?_⟩;by_cases hc:c < n
  ·rw[<- (yh hd hw hi).1 c hc,hw' c];exact aZ λj _=>by rw[ef j c hc]
  ·rw[Cv hw (by lia),c4 λj _=>by rw[far j c (by lia)];grind]
 ·obtain ⟨w,hw'⟩:=rr.back i hi;rw[nO hd] at hw';refine ⟨w,λc=>?_⟩;by_cases hc:c < n
  ·rw[ef i c hc,hw' c];exact aZ λj hj=>by rw[(yh hd hw hj).1 c hc]
  ·rw[far i c (by lia),c4 λj _=>by rw[Cv hw (by lia)];grind]
end
def E2 (K:FG9) (P:Addr->Prop) (H:Hp) (xs:List Rat) (v:V):Prop:=∃q,v=.ref q/\P q/\cx K H q xs
section
variable {K:FG9} {P:Addr->Prop} {H H':Hp} {xs:List Rat} {v:V} {b l:Addr}
theorem E2.updL (h:E2 K P H xs v) (hl:H l=some (.lst ys)) (nb:∀q,P q->q≠l):E2 K P (upd H l o) xs v:=by obtain ⟨q,a,c,d⟩:=h;exact ⟨q,a,c,d.updL hl (nb q c)⟩
theorem bR.ofE {rows:LR9} (g:H l=some (.lst us)) (h:Paired (E2 K P H) rows us) (h0:∀q,P q->H0 q=none) (hn:∀q,P q->q≠l):bR K H0 H l rows :=
 ⟨us,g,Paired.imp' (λ_ _ ⟨q,a,c,d⟩=>⟨q,a,h0 q c,d⟩) h,λz=>by
  obtain ⟨_,_,q,e,c,_⟩:=cP h z;cases e;exact hn _ c rfl⟩
end
theorem tL {α β:Type} {F G:α->β->Prop}:∀{l1:List α} {l2:List β},(∀a b,b∈l2->F a b->G a b)->Paired F l1 l2->Paired G l1 l2
 | _,_,_,.nil=>.nil
 | _,_,h,.cons a r=>.cons (h _ _ (by simp) a) (tL (λx y hy=>h x y (by simp [hy])) r)
section
variable {rows rows' R R':LR9} {n w W:Nat} {ps ps':List Nat}
theorem xN (hw:∀xs∈rows,xs.length=n) (hW:1<=W) (ent:∀i,i < (rows.map jl).length->∀c,Fr 1 W (dX (rows.map jl) i c)):∀P,P<=n->∃ls ps d,yH (rows.map jl) n P ls ps d:=by
 intro P
 induction P with
 | zero=>intro _;exact ⟨_,_,_,yH.start λzs hz=>by obtain ⟨x,hx,rfl⟩:=ay.mp hz;rw[pX];exact hw x hx⟩
 | succ P ih =>
  intro hP;obtain ⟨ls,ps,d,I⟩:=ih (by lia);by_cases e:∃t,ps.length<=t/\t < ls.length/\dX ls t P≠0
  ·obtain ⟨t,h1,h2,h3⟩:=e;exact ⟨_,_,_,I.step hW ent h1 h2 h3⟩
  ·exact ⟨_,_,_,I.skip λi h1 h2=>by
    by_cases z:dX ls i P=0
    ·exact z
    ·exact absurd ⟨i,h1,h2,z⟩ e⟩
theorem Es (hw:∀xs∈rows,xs.length=n) (F:GV rows n w):∃R ps d ls,Nl rows n w R ps d ls:=by
 obtain ⟨W,hW,W2,ent⟩:=F.ent;obtain ⟨ls,ps,d,I⟩:=xN hw hW ent n (av _);obtain ⟨R,S⟩:=I.done hw F;exact ⟨R,ps,d,_,S⟩
end
def vX (mv:LR9) (x:List Rat):List Rat:=mv.map λxs=>bI xs x
def kry (mv pt:LR9):Nat->LR9
 | 0=>[]
 | t+1=>pt++(kry mv pt t).map (vX mv)
section
variable {mv pt R R' S X Y:LR9} {n t m i c:Nat} {ps ps':List Nat} {a:Nat->Nat->Rat}
theorem vW:(vX mv x).length=mv.length:=ak ..
theorem Ml (lm:mv.length=n) (wm:∀xs∈mv,xs.length=n) (wR:∀xs∈R,xs.length=n) (hi:i < R.length) (c:Nat):cY (R.map (vX mv)) i c=bH n λj=>cY mv c j*cY R i j:=by
 have wi:=wR _ (aK hi);have e1:(R.map (vX mv)).getD i []=vX mv R[i]:=by rw[aa,aB,af hi];rfl
 have e2:R.getD i []=R[i]:=by rw[aa,af hi];rfl
 by_cases hc:c < n
 ·have wc:=wm _ (aK (show c < mv.length by lia));have e3:mv.getD c []=mv[c]'(by lia):=by rw[aa,af (by lia)];rfl
  have e4:(vX mv R[i]).getD c 0=bI (mv[c]'(by lia)) R[i]:=by
   unfold vX;rw[aa,aB,af (by lia)];rfl
  unfold cY;rw[e1,e2,e3,e4,dD (by lia),wc]
 ·have e3:mv.getD c []=[]:=by rw[aa,aW (by lia)];rfl
  unfold cY
  rw[e1,e3,aa,aW (by rw[vW];lia),c4 λj _=>by
   show ([]:List Rat).getD j 0*_=0
   rw[aa];show (0:Rat)*_=0
   grind]
  rfl
theorem Ng (h:i < X.length):cY (X++Y) i=cY X i:=by
 funext c;unfold cY;rw[aa (l:=X++Y),cz h,<- aa]
theorem Nd:cY (X++Y) (X.length+i)=cY Y i:=by
 funext c;unfold cY;rw[aa (l:=X++Y),bV (by lia),show X.length+i - X.length=i by lia,<- aa]
theorem nN (lm:mv.length=n) (wp:∀xs∈pt,xs.length=n):∀t,∀xs∈kry mv pt t,xs.length=n:=by
 intro t
 induction t with
 | zero=>intro xs hx;cases hx
 | succ t ih =>
  intro xs hx;rcases az.mp hx with hx | hx
  ·exact wp xs hx
  ·obtain ⟨y,_,rfl⟩:=ay.mp hx;rw[vW,lm]
def Lp (mv pt:LR9) (a c:Nat):Prop:=∃M V:Nat,0 < M/\M<=2^a/\(mv.length+1)*V<=2^c/\GF M V mv/\GF M V pt/\a<=400/\c<=40/\mv.length*(mv.length*(a+c)+4)<=1740/\mv.length*(mv.length*(mv.length*(a+c)+4)+a+c+4)<=8900
end
inductive xT (K:FG9) (C:Addr) (vs:List V) (H:Hp) (Q:VK) (E9:XK):Prop
 | mk (x p:Addr) (H0 H1:Hp) (mv pt lk R:LR9):vs=[.ref x,.ref p]->jZ K H0 H C x mv pt lk->gD mv pt lk->bR K H1 H p R->R.length<=100->(∀r∈R,r.length=mv.length)->(∀xs∈mv,∀r∈R,CJ xs r)->(∀r H',H r=none->aH H H'->bR K H H' r (R.map (vX mv))->Q (.ref r) H')->xT K C vs H Q E9
section
variable {K:FG9} {H0 H1 H H':Hp} {p l:Addr} {rows mv pt R R':LR9} {Rs:List (LR9)} {t:Nat}
theorem bR.weakN (h:bR K H0 H p rows) (hn:∀q,H0 q=none->H1 q=none):bR K H1 H p rows:=by obtain ⟨xs,g,r,n⟩:=h;exact ⟨xs,g,Paired.imp' (λ_ _ ⟨q,a,b,c⟩=>⟨q,a,hn q b,c⟩) r,n⟩
theorem bR.updL (h:bR K H0 H p rows) (hl:H l=some (.lst ys)) (nl:H0 l≠none) (pl:p≠l):bR K H0 (upd H l o) p rows:=by obtain ⟨xs,g,r,n⟩:=h;exact ⟨xs,by rw[br pl];exact g,Paired.imp' (λ_ _ z=>dA.updL z hl nl) r,n⟩
end
theorem bR.toE {K:FG9} (h:bR K H0 H l rows):∃us,H l=some (.lst us)/\Paired (E2 K (λq=>H0 q=none/\q≠l) H) rows us:=by
 obtain ⟨us,g,pr,nn⟩:=h;exact ⟨us,g,tL (λxs v hv ⟨q,e,a,b⟩=>⟨q,e,⟨a,λz=>nn (by rw[<- z,<- e];exact hv)⟩,b⟩) pr⟩
theorem yf {α:Type} {v:α}:∀{l:List α},l.Nodup->v∉l->∀j,(l.set j v).Nodup
 | [],_,_,_=>kv
 | a :: l,h,hn,0=>by
  rw[dJ] at h;rw[List.set_cons_zero,dJ];exact ⟨λz=>hn (.tail _ z),h.2⟩
 | a :: l,h,hn,j+1=>by
  rw[dJ] at h;rw[List.set_cons_succ,dJ];refine ⟨λz=>?_,yf h.2 (λz=>hn (.tail _ z)) j⟩;rcases bZ z with z | z
  ·exact h.1 z
  ·exact hn (by rw[z];exact .head _)
structure iN (K:FG9) (A:Addr->Prop) (H:Hp) (n:Nat) (C:V->Rat->Prop) (m p l b q0:Addr) (us ws vs:List V):Prop where
 bag:fI H b
 inn:Inner H b q0
 gm:H m=some (.lst us)
 gp:H p=some (.lst ws)
 gl:H l=some (.lst vs)
 lm:us.length=n
 row:∀x∈us++vs++ws,eK K A H n (C x) x
 nd:(us++vs++ws).Nodup
section
variable {K:FG9} {A:Addr->Prop} {H H':Hp} {n:Nat} {C C':V->Rat->Prop} {m p l b q0 q:Addr} {us ws vs zs:List V} {y:Rat} {v:V}
theorem iN.same (h:iN K A H n C m p l b q0 us ws vs) (e:aH H H'):iN K A H' n C m p l b q0 us ws vs :=
 ⟨h.bag.same e,(e.upto (p:=b)).2 _ h.inn,e _ _ h.gm,e _ _ h.gp,e _ _ h.gl,h.lm,λx hx=>(h.row x hx).same e,h.nd⟩
theorem iN.upto (h:iN K A H n C m p l b q0 us ws vs) (M:Bp A m p l b q0) (u:cG b H H') (B':fI H' b):iN K A H' n C m p l b q0 us ws vs :=
 ⟨B',u.2 _ h.inn,u.other M.mb h.gm,u.other M.pb h.gp,u.other M.lb h.gl,h.lm,λx hx=>(h.row x hx).upto u h.bag M.ab,h.nd⟩
theorem iN.weak (h:iN K A H n C m p l b q0 us ws vs) (w:∀x∈us++vs++ws,∀y,C x y->C' x y):iN K A H n C' m p l b q0 us ws vs :=
 ⟨h.bag,h.inn,h.gm,h.gp,h.gl,h.lm,λx hx=>(h.row x hx).weak (λ_ z=>z) (w x hx),h.nd⟩
theorem iN.put (h:iN K A H n C m p l b q0 us ws vs) (M:Bp A m p l b q0) (aq:A q) (hq:H q=some (.lst zs)) (hv:bQ K H y v) (hc:C (.ref q) y) (j:Nat):iN K A (upd H q (.lst (zs.set j v))) n C m p l b q0 us ws vs:=by
 have ne:∀{z},¬A z->z≠q:=λh e=>h (by rw[e];exact aq)
 refine ⟨h.bag.upd h.inn (ne M.ab).symm (ne M.aq).symm,h.inn.upd (ne M.ab).symm,by rw[br (ne M.am)];exact h.gm,by rw[br (ne M.ap)];exact h.gp,by rw[br (ne M.al)];exact h.gl,h.lm,λx hx=>?_,h.nd⟩;by_cases e:x=.ref q
 ·subst e;exact (h.row _ hx).put hq hv hc j
 ·obtain ⟨q1,qs,rfl,a1,r1,l1,c1⟩:=h.row x hx;exact ⟨q1,qs,rfl,a1,r1.updL hq (λz=>e (by rw[z])),l1,c1⟩
theorem iN.set (h:iN K A H n C m p l b q0 us ws vs) (M:Bp A m p l b q0) (hx:eK K A H n (C v) v) (hn:v∉us++vs++ws) (j:Nat):iN K A (upd H m (.lst (us.set j v))) n C m p l b q0 (us.set j v) ws vs:=by
 have mem:∀x∈us.set j v++vs++ws,x=v\/x∈us++vs++ws:=λx hx=>by
  rcases az.mp hx with hx | hx
  ·rcases az.mp hx with hx | hx
   ·rcases bZ hx with hx | hx
    ·exact .inr (by simp [hx])
    ·exact .inl hx
   ·exact .inr (by simp [hx])
  ·exact .inr (by simp [hx])
 refine ⟨h.bag.upd h.inn M.mb M.mq,h.inn.upd M.mb,aJ,by rw[br M.mp.symm];exact h.gp,by rw[br M.ml.symm];exact h.gl,by rw[dM];exact h.lm,λx hx'=>?_,?_⟩
 ·rcases mem x hx' with rfl | hx'
  ·exact hx.other h.gm M.am
  ·exact (h.row x hx').other h.gm M.am
 ·have nd:=h.nd;rw[cD] at nd hn ⊢;obtain ⟨n1,n2,n3⟩:=dc.mp nd;refine dc.mpr ⟨?_,n2,λa ha c hc=>?_⟩
  ·rcases gN j us.length with z | z
   ·exact yf n1 (λz'=>hn (az.mpr (.inl z'))) j
   ·rw[List.set_eq_of_length_le z];exact n1
  ·rcases bZ ha with ha | rfl
   ·exact n3 a ha c hc
   ·exact λz=>hn (az.mpr (.inr (by rw[z];exact hc)))
end
theorem DG (h0:0 < M) (h1:M<=2^800) (hW:W<=2^140) (h:Fr M W x):gL x :=
 Cu h0 (ai h1 (au (by decide) (by decide))) (ai hW (au (by decide) (by decide))) h
theorem IS {t V c:Nat} (ht:t<=3) (hV:V<=2^20) (hc:c<=9):c*(9^t*V)<=2^140:=by
 have h1:9^t<=9^3:=au (by decide) ht;have h2:c*(9^t*V)<=9*(9^3*2^20):=aF hc (aF h1 hV);exact ai h2 (ai (show 9*(9^3*2^20)<=2^40 by decide) (au (by decide) (by decide)))
theorem l5 {α:Type} {l:List α} {v:α} (h:l.Nodup) (hn:v∉l):(l++[v]).Nodup:=dc.mpr ⟨h,by simp,λa ha c hc=>by rw[cp.mp hc];exact λz=>hn (by rw[<- z];exact ha)⟩
section
variable {K:FG9} {a:Addr} {xs:List V} {g:TG} {tf:TT} {te:TE} {Q:VK} {σ₀:St} {H:Hp} {α β:Type}
theorem yw (G:Hp->β->V->Prop) (C:β->Prop) (hB:fI H b) (hl:n<=1000) (hG:∀{H' H'' c x},G H' c x->cG b H' H''->fI H' b->G H'' c x)
  (hA:∀{H' c x},G H' c x->∃q,x=V.ref q/\H' q≠none)
  (hs:∀(i:Nat) H' NY NN,i < n->cG b H H'->fI H' b->(∀y c H2,cG b H' H2->fI H2 b->C c->G H2 c y->(∃q,y=V.ref q/\H' q=none)->NY y H2)->mS σ₀ g tf te (.int i) H' NY NN)
  (hd:∀ys cs H' p,H p=none->cG b H H'->fI H' b->H' p=some (.lst ys)->cs.length=n->ys.Nodup->(∀c∈cs,C c)->Paired (G H') cs ys->(∃H2,H2 p=none/\Paired (G H2) cs ys)->Q (.ref p) H'):oj (Bv 0 n) σ₀ g tf te Q H:=by
 refine pT (λi ys H'=>cG b H H'/\fI H' b/\∃cs,cs.length=i/\ys.Nodup/\(∀c∈cs,C c)/\Paired (G H') cs ys) (bf (bK (by lia))) ⟨(aH.refl _).upto,hB,[],rfl,kv,(λ_ z=>nomatch z),.nil⟩ ?_ ?_
 ·rintro i ys H' hi hlen ⟨u,B,cs,lc,nd,hc,pr⟩;rw[Ec];refine hs i H' _ _ hi u B λy c H2 u2 B2 cc gy ⟨q,ey,nq⟩=>⟨u.trans u2,B2,cs++[c],by simp [lc],l5 nd (λz=>by obtain ⟨c',_,gc⟩:=cP pr z;obtain ⟨q',e',h'⟩:=hA gc;rw[ey] at e';cases e';exact h' nq),uY hc cc,b9 (Paired.imp' (λ_ _ z=>hG z u2 B) pr) (.cons gy .nil)⟩
 ·rintro ys H' hy ⟨u,B,cs,lc,nd,hc,pr⟩ p hp;have s:aH H' (upd H' p (.lst ys)):=aH.new hp;exact hd ys cs _ p (u.none B hp) (u.same s) (B.same s) aJ lc nd hc (Paired.imp' (λ_ _ z=>hG z s.upto B) pr) ⟨H',hp,pr⟩
end
structure CF (K:FG9) (A:Addr->Prop) (n:Nat) (C:Rat->Prop) (m p l b q0:Addr) (us ws vs:List V) (H0 H:Hp):Prop where
 mix:iN K A H n (λ_=>C) m p l b q0 us ws vs
 gp:H p=some (.lst ws)
 gl:H l=some (.lst vs)
 kp:fZ A b m H0 H
section
variable {K:FG9} {A:Addr->Prop} {n:Nat} {C:Rat->Prop} {m p l b q0 q:Addr} {us ws vs:List V} {H0 H H':Hp} {y:Rat} {v:V}
theorem CF.same (h:CF K A n C m p l b q0 us ws vs H0 H) (e:aH H H'):CF K A n C m p l b q0 us ws vs H0 H':=⟨h.mix.same e,e _ _ h.gp,e _ _ h.gl,h.kp.same e⟩
theorem CF.upto (h:CF K A n C m p l b q0 us ws vs H0 H) (M:Bp A m p l b q0) (u:cG b H H') (B:fI H' b):CF K A n C m p l b q0 us ws vs H0 H':=⟨h.mix.upto M u B,u.other M.pb h.gp,u.other M.lb h.gl,h.kp.upto u⟩
theorem CF.row (h:CF K A n C m p l b q0 us ws vs H0 H) (hx:x∈ws\/x∈vs):eK K A H n C x:=h.mix.row x (by rcases hx with hx | hx <;> simp [hx])
theorem CF.put (h:CF K A n C m p l b q0 us ws vs H0 H) (M:Bp A m p l b q0) (hx:V.ref q∈ws\/V.ref q∈vs) (hv:bQ K H y v) (hc:C y) (j:Nat):∃zs,H q=some (.lst zs)/\zs.length=n/\CF K A n C m p l b q0 us ws vs H0 (upd H q (.lst (zs.set j v))):=by
 obtain ⟨q',zs,qs,e,a,g,lz,_⟩:=(h.row hx).at;cases e;have ne:∀{z},¬A z->z≠q:=λh e=>h (by rw[e];exact a)
 exact ⟨zs,g,lz,h.mix.put M a g hv hc j,by rw[br (ne M.ap)];exact h.gp,by rw[br (ne M.al)];exact h.gl,h.kp.upd (.inl a)⟩
end
inductive Am (K:FG9) (vs:List V) (H:Hp) (Q:VK) (E9:XK):Prop
 | mk (b:Addr) (n w:Nat) (way first:Int):vs=[.ref b,.int n,.int way,.int first,.int w]->fI H b->n<=8->1<=w->w<=1000000->(∀r us H',H r=none->H' r=some (.lst us)->us.length=n->us.Nodup->(∀x∈us,eK K (λq=>H q=none/\q≠r) H' n (Dr (max w 6)) x)->fI H' b->cG b H H'->Q (.ref r) H')->Am K vs H Q E9
def PtF (n i o w c:Nat) (mv pt lk:LR9):Prop:=∃M V1:Nat,0 < M/\GF M V1 mv/\GF M V1 pt/\GF M V1 lk/\((w<=9/\M=2520/\V1=9^3*9)\/(9 < w/\M<=2^(c*((n+i+o)*n))/\V1=9^3*2^c))
inductive An (K:FG9) (vs:List V) (H:Hp) (Q:VK) (E9:XK):Prop
 | mk (b:Addr) (n:Nat):vs=[.ref b,.int n]->fI H b->1<=n->n<=8->(∀r mv pt lk H',fu K H H' r mv pt lk->mv.length=n->pt.length=1->lk.length=1->gD mv pt lk->GF 1 1 mv->GF 1 1 pt->GF 1 1 lk->fI H' b->cG b H H'->Q (.ref r) H')->An K vs H Q E9
theorem uV (M0:0 < M) (hM:M<=2^a) (hn:mv.length<=n0) (hV:(n0+1)*V1<=2^c) (fm:GF M V1 mv) (fp:GF M V1 pt) (h4:a<=400/\c<=40/\n0*(n0*(a+c)+4)<=1740/\n0*(n0*(n0*(a+c)+4)+a+c+4)<=8900):Lp mv pt a c:=by
 obtain ⟨h1,h2,h3,h5⟩:=h4;have e1:mv.length*(a+c)<=n0*(a+c):=aG _ hn;have e2:mv.length*(mv.length*(a+c)+4)<=n0*(n0*(a+c)+4):=aF hn (by lia);have e3:mv.length*(mv.length*(mv.length*(a+c)+4)+a+c+4)<=n0*(n0*(n0*(a+c)+4)+a+c+4):=aF hn (by lia);exact ⟨M,V1,M0,hM,ai (aG _ (by lia)) hV,fm,fp,h1,h2,by lia,by lia⟩
def Ia (K:FG9):Sp:=λvs H Q _=>∃b:Addr,vs=[.ref b]/\fI H b /\
 ∀r mv pt lk H',fu K H H' r mv pt lk->6<=mv.length->gD mv pt lk->GF 1 (9^3) mv->GF 1 (9^3) pt->GF 1 (9^3) lk->fI H' b->cG b H H'->Q (.ref r) H'
theorem Cy {rs:List Nat} {v v':Nat->fY}:∀{k:Nat} (pre:List fY),(∀j,j < k->∀r∈rs,v j r=v' j r)->iP rs (pre++ie v k)=iP rs (pre++ie v' k)
 | 0,_,_=>rfl
 | k+1,pre,h=>by
  show iP rs (pre++v k :: ie v k)=iP rs (pre++v' k :: ie v' k)
  rw[Gx (h k (by lia))];have:=Cy (k:=k) (pre++[v' k]) λj hj=>h j (by lia)
  simpa using this
theorem cw_map {τ:fY->fY} {v:Nat->fY}:∀{k:Nat},(ie v k).map τ=ie (λj=>τ (v j)) k
 | 0=>rfl
 | k+1=>by show τ (v k) :: _=_;rw[cw_map];rfl
section
variable {rows fs ls:LR9} {n r M W Wv Wb k P:Nat} {Pm Y Z B E a:Nat->Nat->Rat} {d:Rat} {ps:List Nat} {rs:LR9}
end
section
variable {rows R R1 R2 mv pt:LR9} {n r M V1 W W' Wv Wb k P:Nat} {Pm Y Z B E a:Nat->Nat->Rat} {d:Rat} {ps ps1 ps2:List Nat} {rs:LR9}
theorem Kf (h0:0 < M) (h3:∀xs∈rows,∀x∈xs,Tp M W x):∀i,i < rows.length->∀c,Fr 1 W (dX (rows.map jl) i c):=λi hi c=>by
 have hx:=getD_in (e:=[]) hi;rw[zZ hi];unfold cY;generalize rows.getD i []=xs at hx ⊢;by_cases hc:c < xs.length
 ·have t:=h3 xs hx _ (getD_in (e:=0) hc);obtain ⟨s,e,b⟩:=vg t h0 (wX (xs:=xs)) (nY (ay.mpr ⟨_,getD_in (e:=0) hc,rfl⟩)) (DU h0 (h3 xs hx));rw[eO,e];exact Fr.int b
 ·rw[aa,aW (by lia)];show Fr 1 W (_*0)
  rw[gM];exact Fr.zero
theorem Gk {V:Nat} {f:Nat->Rat}:∀{k:Nat},(∀j,j < k->Fr 1 V (f j))->Fr 1 (k*V) (bH k f)
 | 0,_=>Fr.zero
 | k+1,h=>by
  rw[fG];exact (Gk λj hj=>h j (by lia)).add (h k (by lia))
theorem rD {f:Nat->Rat} {a:Nat}:∀{b:Nat},bH (a+b) f=bH a f+bH b λt=>f (a+t)
 | 0=>by show bH a f=bH a f+0;grind
 | b+1=>by
  show bH (a+b) f+f (a+b)=_+(bH b _+f (a+b))
  rw[rD];grind
end
section
variable {rows R R1 R2 mv pt:LR9} {n t t2 a c:Nat} {ps ps1 ps2:List Nat}
theorem Jl (h:∀i,i < rows.length->∀c,Tp M W (cY rows i c)):∀xs∈rows,∀x∈xs,Tp M W x:=λxs hx x hx'=>by
 obtain ⟨i,hi,rfl⟩:=bM hx;obtain ⟨c,hc,rfl⟩:=bM hx';have:=h i hi c;unfold cY at this;rw[aa (l:=rows),af hi] at this;have e:(some rows[i]).getD []=rows[i]:=rfl;rw[e,aa,af hc] at this;exact this
end
section
variable {K:FG9} {a:Addr} {xs:List V} {g:TG} {tf:TT} {te:TE} {Q:VK} {σ₀:St} {H:Hp} {α β:Type}
theorem yu {F:Hp->α->V->Prop} (G:Hp->β->V->Prop) (f:α->β) (hx:H a=some (.lst xs)) (pf:Paired (F H) as xs) (hl:as.length<=1000)
  (hF:∀{H H' c x},F H c x->aH H H'->F H' c x) (hG:∀{H H' c x},G H c x->aH H H'->G H' c x) (hA:∀{H' c x},G H' c x->∃q,x=V.ref q/\H' q≠none)
  (hs:∀(i:Nat) c x H' NY NN,as[i]?=some c->aH H H'->F H' c x->(∀y H2,aH H' H2->G H2 (f c) y->(∃q,y=V.ref q/\H' q=none)->NY y H2)->mS σ₀ g tf te x H' NY NN)
  (hd:∀ys H' p,H p=none->aH H H'->H' p=some (.lst ys)->ys.Nodup->(∀y∈ys,∃q,y=V.ref q/\H q=none/\q≠p)->Paired (G H') (as.map f) ys->Q (.ref p) H'):oj (JA K a) σ₀ g tf te Q H:=by
 have lx:=pf.length;refine fW (K:=K) (xs:=xs) (λi ys H'=>aH H H'/\ys.Nodup/\(∀y∈ys,∃q,y=V.ref q/\H q=none)/\Paired (G H') ((as.take i).map f) ys) (bf (bK (by lia))) ⟨aH.refl _,kv,(λ_ z=>nomatch z),.nil⟩ (λi ys H' _ ⟨s,_⟩=>bL.of (s _ _ hx)) ?_ ?_
 ·rintro i x ys H' hx' hlen ⟨s,nd,hn,pr⟩;obtain ⟨c,ec,hc⟩:=ck pf hx';refine hs i c x H' _ _ ec s (hF hc s) λy H2 s2 gy ⟨q,ey,nq⟩=>⟨s.trans s2,l5 nd (λz=>?_),uY hn ⟨q,ey,s.none nq⟩,?_⟩
  ·obtain ⟨c',_,gc⟩:=cP pr z;obtain ⟨q',e',h'⟩:=hA gc;rw[ey] at e';cases e';exact h' nq
  ·rw[take_snoc ec,cX];exact b9 (Paired.imp' (λ_ _ z=>hG z s2) pr) (.cons gy .nil)
 ·rintro ys H' hy ⟨s,nd,hn,pr⟩ p hp;rw[aD (by lia)] at pr;refine hd ys _ p (s.none hp) (s.trans (aH.new hp)) aJ nd (λy hy=>?_) (Paired.imp' (λ_ _ z=>hG z (aH.new hp)) pr);obtain ⟨q,e,nq⟩:=hn y hy;refine ⟨q,e,nq,λz=>?_⟩;obtain ⟨c',_,gc⟩:=cP pr hy;obtain ⟨q',e',h'⟩:=hA gc;rw[e] at e';cases e';exact h' (by rw[z];exact hp)
end
structure MM (K:FG9) (H0 H:Hp) (n:Nat) (fd:Addr) (L:List (Addr×List V)):Prop where
 gf:H fd=some (.lst (L.map λe=>V.ref e.1))
 nf:H0 fd=none
 ls:∀e∈L,H0 e.1=none/\e.1≠fd/\H e.1=some (.lst e.2)
 nd:(L.map λe=>e.1).Nodup
 rows:∀e∈L,∀x∈e.2,eK K (λq=>(H0 q=none/\q≠fd)/\q∉L.map λe=>e.1) H n (Fr 1 1) x
 rd:(L.flatMap λe=>e.2).Nodup
section
variable {K:FG9} {H0 H H1:Hp} {n:Nat} {fd q:Addr} {L:List (Addr×List V)} {us:List V}
theorem MM.snoc (h:MM K H0 H n fd L) (s0:aH H0 H) (s:aH H H1) (hq:H q=none) (gq:H1 q=some (.lst us)) (nd:us.Nodup) (hr:∀x∈us,eK K (λz=>H z=none/\z≠q) H1 n (Fr 1 1) x):MM K H0 (upd H1 fd (.lst ((L.map λe=>V.ref e.1)++[.ref q]))) n fd (L++[(q,us)]):=by
 have qf:q≠fd:=λz=>by rw[z,h.gf] at hq;cases hq
 have old:∀{z},z∈(L.map λe=>e.1)->H z≠none:=λhz=>by
  obtain ⟨e,he,rfl⟩:=ay.mp hz;rw[(h.ls e he).2.2];exact λz=>nomatch z
 have g1:=s _ _ h.gf;refine ⟨by rw[aJ,cX];rfl,h.nf,λe he=>?_,?_,λe he x hx=>?_,?_⟩
 ·rcases az.mp he with he | he
  ·obtain ⟨a,b,c⟩:=h.ls e he;exact ⟨a,b,by rw[br b];exact s _ _ c⟩
  ·rw[cp.mp he];exact ⟨s0.none hq,qf,by rw[br qf];exact gq⟩
 ·rw[cX];exact l5 h.nd λz=>old z hq
 ·have key:eK K (λz=>(H0 z=none/\z≠fd)/\z∉(L++[(q,us)]).map λe=>e.1) H1 n (Fr 1 1) x:=by
   rcases az.mp he with he | he
   ·obtain ⟨z,qs,e1,⟨e2,e3⟩,e4,e5⟩:=h.rows e he x hx;refine ⟨z,qs,e1,⟨e2,λhz=>?_⟩,e4.same s,e5⟩;rw[cX] at hz;rcases az.mp hz with hz | hz
    ·exact e3 hz
    ·have hz:z=q:=cp.mp hz;obtain ⟨_,gg,_⟩:=e4;rw[hz,hq] at gg;cases gg
   ·rw[cp.mp he] at hx;refine (hr x hx).weak (λz hz=>⟨⟨s0.none hz.1,λy=>by rw[y] at hz;rw[h.gf] at hz;exact absurd hz.1 (λw=>nomatch w)⟩,λy=>?_⟩) (λ_ w=>w);rw[cX] at y;rcases az.mp y with y | y
    ·exact old y hz.1
    ·exact hz.2 (cp.mp y)
  exact key.other g1 (λz=>z.1.2 rfl)
 ·rw[List.flatMap_append];refine dc.mpr ⟨h.rd,by simpa using nd,λx hx y hy z=>?_⟩;obtain ⟨e,he,hx⟩:=List.mem_flatMap.mp hx;obtain ⟨w,qs,e1,_,⟨_,gg,_⟩,_⟩:=h.rows e he x hx;obtain ⟨w',_,e1',⟨hw,_⟩,_⟩:=hr y (by simpa using hy);rw[<- z,e1] at e1';cases e1';rw[hw] at gg;cases gg
end
theorem AN {F G:List fY->Rat} {r:Nat} {g:Nat->Rat} {c:Rat} (hF:∀ws:List fY,F (ws.map λv i=>g i*v i)=c*G ws):∀(post pre:List fY) (s:Rat),xm F r (pre.map λv i=>g i*v i) (post.map λv i=>g i*v i) s=g r*c*xm G r pre post s
 | [],_,_=>by show (0:Rat)=_*0;grind
 | v :: post,pre,s=>by
  have i1:=hF (pre++post);have i2:=AN (r:=r) hF post (pre++[v]) (-s);simp only[cX,dZ,List.map_nil,xm] at i1 i2 ⊢;rw[i1,i2];grind
theorem wH {g:Nat->Rat}:∀(rs:List Nat) (vs:List fY),iP rs (vs.map λv i=>g i*v i)=(rs.map g).foldr (λx y=>x*y) 1*iP rs vs
 | [],[]=>by show (1:Rat)=1*1;grind
 | [],_ :: _=>by show (0:Rat)=1*0;grind
 | r :: rs,vs=>by
  have:=AN (r:=r) (F:=λws=>iP rs ws) (G:=λws=>iP rs ws) (c:=(rs.map g).foldr (λx y=>x*y) 1) (λws=>wH rs ws) vs [] 1;exact this
theorem Dk {g:Nat->Rat}:∀{rs:List Nat},(∀r∈rs,g r≠0)->(rs.map g).foldr (λx y=>x*y) 1≠0
 | [],_=>by show (1:Rat)≠0;decide
 | r :: rs,h=>by
  show g r*_≠0
  have h1:=h r (.head _);have h2:=Dk λr' hr'=>h r' (.tail _ hr')
  intro z;rcases mM.mp z with z | z
  ·exact h1 z
  ·exact h2 z
section
variable {rows R X K0:LR9} {due L:List Rat} {n m M W D E W0 W1:Nat} {ps:List Nat}
theorem EX (hw:∀xs∈rows,xs.length=n) (hW:1<=W) (h0:0 < M) (h3:∀xs∈rows,∀x∈xs,Tp M W x) (RR:eZ rows n R ps):∃pm:Nat->Nat,(∀i j,i < ps.length->j < ps.length->pm i=pm j->i=j)/\(∀t,t < ps.length->pm t < rows.length)/\ps.length<=rows.length/\iP (mF pm ps.length) (ie (λj i=>cY rows i (ps.getD j 0)) ps.length)≠0:=by
 have ent:=Kf h0 h3;obtain ⟨ls,ps2,d,I⟩:=xN hw hW (by rw[ak];exact ent) n (av _);obtain ⟨_,_,⟨pm,B⟩,E⟩:=I;rw[ak] at B E
 have RF:Bm rows.length n (cY rows) ps2.length (λj=>ps2.getD j 0) (λi c=>dX ls i c / d):=Bm.other (E.done λi hi c hc=>wD (n:=n) (λzs hz=>by
  obtain ⟨xs,hx,rfl⟩:=ay.mp hz;rw[pX];exact hw xs hx) hc) CM CN
 obtain ⟨e1,e2,e3⟩:=RF.uniq RR.2.2 (λ_ hi=>fJ.row hi) (λ_ hi=>fJ.row hi);have km:=B.km;have dt:=B.det;have d0:=B.d0
 have e4:iP (mF pm ps2.length) ([]++ie (λj r=>dX (rows.map jl) r (ps2.getD j 0)) ps2.length)=iP (mF pm ps2.length) ([]++ie (λj i=>GQ rows i*cY rows i (ps.getD j 0)) ps2.length):=Cy [] λj hj r hr=>by
  obtain ⟨t,ht,rfl⟩:=kF hr;rw[zZ (B.rng t (by lia)),e2 j hj];rfl
 have e5:ie (λj i=>GQ rows i*cY rows i (ps.getD j 0)) ps2.length=(ie (λj i=>cY rows i (ps.getD j 0)) ps2.length).map λv i=>GQ rows i*v i:=(cw_map (τ:=λv i=>GQ rows i*v i)).symm
 refine ⟨pm,λi j hi hj e=>B.inj i j (by lia) (by lia) e,λt ht=>B.rng t (by lia),by lia,?_⟩;rw[<- e1];intro z;apply d0;rw[dt];have e4:iP (mF pm ps2.length) (ie (λj r=>dX (rows.map jl) r (ps2.getD j 0)) ps2.length)=iP (mF pm ps2.length) (ie (λj i=>GQ rows i*cY rows i (ps.getD j 0)) ps2.length):=e4;rw[e4,e5,wH,z,gM]
theorem LW (hd:due.length=X.length) (hw:∀xs∈X,xs.length=n) (RR:eZ (eI X due) (n+1) R ps) (hn:n∉ps) (hi:i < X.length):due.getD i 0=bH ps.length λj=>cY R j n*cY X i (ps.getD j 0):=by
 obtain ⟨j1,j2⟩:=yh hd hw hi;have sp:=RR.2.2.span i (by rw[nO hd];exact hi);have:=RR.2.2.coef sp n;rw[<- j2,this];refine aZ λj hj=>?_
 have lo:=RR.2.2.low j hj;have ne:ps.getD j 0≠n:=λz=>hn (by rw[<- z];exact getD_in hj)
 rw[j1 _ (by lia)];exact eO _ _
theorem Ig (RR:eZ X (n+1) R ps) (hy:y∈j5 R ps n):y=0\/∃j,j < ps.length/\y=cY R j n:=by
 obtain ⟨c,hc,rfl⟩:=bM hy;have lc:(j5 R ps n).length=n:=jM;have e:(j5 R ps n)[c]=(j5 R ps n).getD c 0:=by rw[aa,af hc];rfl
 rw[e];by_cases hp:c∈ps
 ·obtain ⟨j,hj,ej⟩:=bM hp
  right
  refine ⟨j,hj,?_⟩;have ej':ps.getD j 0=c:=by rw[aa,af hj];exact ej
  have:=Fw (R:=R) (ps:=ps) (n:=n) (j:=ps.length) (c:=c) (by lia);unfold j5;rw[this,ig hj λi hi ne=>if_neg λz=>?_,if_pos ej'];rcases gN i j with y | y
  ·have:=RR.2.2.inc i j y hj
   lia
  ·have:=RR.2.2.inc j i (by lia) hi
   lia
 ·exact .inl (Ik hp)
theorem Lh (hl:vs.length<=N) (h:∀v∈vs,∀r∈rs,Fr 1 Wx (v r)):∃z:Int,iP rs vs=(z:Rat)/\z.natAbs<=(N*Wx)^rs.length:=by
 have f:=wI hl h;obtain ⟨z,ez⟩:=uX f;rw[ez] at f;exact ⟨z,ez,sW f⟩
end
def js (mv:LR9):Nat->List Rat->List Rat
 | 0,x=>x
 | t+1,x=>vX mv (js mv t x)
section
variable {mv pt lk pus:LR9} {st pu go:List Rat} {n t T c:Nat}
theorem ou (h:st.length=mv.length):∀t,(js mv t st).length=mv.length
 | 0=>h
 | _+1=>vW
theorem Cs {x y:List Rat} (h:x.length=y.length) (e:∀c,c < x.length->x.getD c 0=y.getD c 0):x=y:=by
 apply gv h;intro c h1 h2;have:=e c h1;rwa [aa,aa,af h1,af h2] at this
theorem JN (wm:∀xs∈mv,xs.length=mv.length) (h:st.length=mv.length) (hc:c < mv.length):(vX mv st).getD c 0=bH mv.length λj=>cY mv c j*st.getD j 0:=by
 have e:(vX mv st).getD c 0=bI mv[c] st:=by
  unfold vX;rw[aa,aB,af hc];rfl
 have wc:=wm _ (aK hc);rw[e,dD (by lia),wc];refine aZ λj _=>?_
 unfold cY;rw[aa (l:=mv),af hc];rfl
theorem FZ (D:gD mv pt lk) (h:st.length=mv.length) (hp:pu.length=pt.length) (hc:c < mv.length):(fD mv pt st pu).getD c 0=bH mv.length (λj=>cY mv c j*st.getD j 0)+bH pt.length λi=>pu.getD i 0*cY pt i c:=by
 have wc:=D.mw _ (aK hc)
 have e:(fD mv pt st pu).getD c 0=bI (mv[c]++pt.map λxs=>xs.getD c 0) (st++pu):=by
  unfold fD;rw[aa,bx,af hc,pV hc];rfl
 rw[e,nV (by lia),dD (by lia),dD (by rw[ak];lia),wc,ak];congr 1
 ·refine aZ λj _=>?_
  unfold cY;rw[aa (l:=mv),af hc];rfl
 ·refine aZ λi hi=>?_
  rw[eO];congr 1;unfold cY;rw[aa,aB,aa (l:=pt),af hi];rfl
theorem qA:∀t,(kry mv pt t).length=t*pt.length
 | 0=>by rw[Nat.zero_mul];rfl
 | t+1=>by
  show (pt++(kry mv pt t).map (vX mv)).length=_
  rw[ax,ak,qA t,fG,Ea]
theorem CY (D:gD mv pt lk) (ls:st.length=mv.length):∀k,k<=pus.length->(∀xs∈pus,xs.length=pt.length)->∀c,c < mv.length->(oG mv pt st pus k).getD c 0=(js mv k st).getD c 0+bH (kry mv pt k).length λi=>((pus.take k).reverse.flatten).getD i 0*cY (kry mv pt k) i c:=by
 intro k
 induction k with
 | zero =>
  intro _ _ c _;show st.getD c 0=st.getD c 0+0
  grind
 | succ k ih =>
  intro hk hp c hc;have hk':k < pus.length:=hk;have e:=af hk';have hl:=hp _ (aK hk');have ls':=j6 (pt:=pt) (pus:=pus) ls (k:=k) (by lia)
  have lf:((pus.take k).reverse.flatten).length=(kry mv pt k).length:=by
   rw[qA,AW (i:=pt.length) λxs hx=>hp xs (bS (List.mem_reverse.mp hx)),List.length_reverse,bX,Hu (by lia)]
  rw[mU e,FZ D ls' hl hc]
  have er:(pus.take (k+1)).reverse.flatten=pus[k]++(pus.take k).reverse.flatten:=by
   rw[take_snoc e,List.reverse_append];simp
  have ek:kry mv pt (k+1)=pt++(kry mv pt k).map (vX mv):=rfl;rw[er,ek,ax,ak,rD]
  have p1:(bH pt.length λi=>(pus[k]++(pus.take k).reverse.flatten).getD i 0*cY (pt++(kry mv pt k).map (vX mv)) i c)=bH pt.length λi=>pus[k].getD i 0*cY pt i c:=aZ λi hi=>by
   rw[Ng hi,aa,cz (by lia),aa]
  have p2:(bH (kry mv pt k).length λi=>(pus[k]++(pus.take k).reverse.flatten).getD (pt.length+i) 0*cY (pt++(kry mv pt k).map (vX mv)) (pt.length+i) c)=bH mv.length λj=>cY mv c j*bH (kry mv pt k).length λi=>((pus.take k).reverse.flatten).getD i 0*cY (kry mv pt k) i j:=by
   have q1:∀i,i < (kry mv pt k).length->(pus[k]++(pus.take k).reverse.flatten).getD (pt.length+i) 0*cY (pt++(kry mv pt k).map (vX mv)) (pt.length+i) c=bH mv.length λj=>cY mv c j*(((pus.take k).reverse.flatten).getD i 0*cY (kry mv pt k) i j):=λi hi=>by
    rw[Nd,Ml rfl D.mw (nN rfl D.pw k) hi,aa,bV (by lia),hl,MG,<- aa,<- cQ];exact aZ λj _=>by grind
   rw[aZ q1,gX];exact aZ λj _=>cQ
  rw[p1,p2];have p3:(js mv (k+1) st).getD c 0=bH mv.length λj=>cY mv c j*(js mv k st).getD j 0:=JN D.mw (ou ls k) hc
  rw[p3]
  have p4:(bH mv.length λj=>cY mv c j*(oG mv pt st pus k).getD j 0)=(bH mv.length λj=>cY mv c j*(js mv k st).getD j 0)+bH mv.length λj=>cY mv c j*bH (kry mv pt k).length λi=>((pus.take k).reverse.flatten).getD i 0*cY (kry mv pt k) i j:=by
   rw[<- jm];refine aZ λj hj=>?_
   rw[ih (by lia) hp j hj];grind
  rw[p4];grind
end
section
variable {mv pt lk pus R:LR9} {st pu go w pr L:List Rat} {n t T c u k:Nat} {ps:List Nat}
theorem BI (D:gD mv pt lk) (ls:st.length=mv.length):oG mv pt st (List.replicate T (List.replicate pt.length 0)) T=js mv T st:=by
 have l1:=j6 (pt:=pt) (pus:=List.replicate T (List.replicate pt.length 0)) ls (k:=T) (by rw[aL];exact av _);refine Cs (by rw[l1,ou ls]) λc hc=>?_
 rw[l1] at hc;rw[CY D ls T (by rw[aL];exact av _) (λxs hx=>by rw[(dk.mp hx).2,aL]) c hc,c4 λi _=>?_,va]
 have z:(((List.replicate T (List.replicate pt.length (0:Rat))).take T).reverse.flatten).getD i 0=0:=by
  rw[aa];cases e:(((List.replicate T (List.replicate pt.length (0:Rat))).take T).reverse.flatten)[i]? with
  | none=>rfl
  | some y =>
   have:=ar e;obtain ⟨l,hl,hy⟩:=dQ.mp this;have hl:=bS (List.mem_reverse.mp hl);rw[(dk.mp hl).2] at hy;exact (dk.mp hy).2
 rw[z,D6]
def kY (mv:LR9) (T:Nat) (st go:List Rat):List Rat:=List.zipWith (λx y=>x - y) go (js mv T st)
theorem AS (ls:st.length=mv.length) (lg:go.length=mv.length):(kY mv T st go).length=mv.length:=by
 unfold kY;rw[bg,ou ls,lg,kr]
theorem Fh {x y:List Rat} (h:x.length=y.length) (hc:c < x.length):(List.zipWith (λx y=>x - y) x y).getD c 0=x.getD c 0 - y.getD c 0:=by
 rw[aa,bx,aa (l:=x),aa (l:=y),af hc,af (by lia)];rfl
end
def zx (l:Addr):Hp:=λq=>if q=l then some (.lst []) else none
theorem off_ne:zx l l≠none:=by unfold zx;rw[if_pos rfl];exact λz=>nomatch z
theorem FV (h:q≠l):zx l q=none:=by unfold zx;rw[if_neg h]
def By (K:FG9) (l:Addr) (H:Hp) (R:LR9) (v:V):Prop:=∃q,v=V.ref q/\q≠l/\bR K (zx l) H q R
section
variable {K:FG9} {H0 H H':Hp} {l p q:Addr} {R:LR9} {v:V} {mv pt:LR9} {u T:Nat}
theorem bR.off (h:bR K H0 H p R) (hl:H l=none):p≠l/\bR K (zx l) H p R:=by
 obtain ⟨xs,g,r,n⟩:=h;refine ⟨λz=>(by rw[z,hl] at g;cases g),xs,g,Paired.imp' (λ_ _ ⟨q,a,b,c⟩=>⟨q,a,FV λz=>?_,c⟩) r,n⟩;obtain ⟨_,gg,_⟩:=c;rw[z,hl] at gg;cases gg
theorem By.same (h:By K l H R v) (s:aH H H'):By K l H' R v:=by obtain ⟨q,a,b,c⟩:=h;exact ⟨q,a,b,c.same s⟩
theorem By.upd {ys zs:List V} (h:By K l H R v) (g:H l=some (.lst ys)):By K l (upd H l (.lst zs)) R v:=by obtain ⟨q,a,b,c⟩:=h;exact ⟨q,a,b,c.updL g off_ne b⟩
def Bt (mv pt:LR9) (u:Nat):List (LR9):=(List.range u).map λs=>pt.map (js mv s)
theorem DW:Bt mv pt (u+1)=Bt mv pt u++[pt.map (js mv u)]:=by unfold Bt;rw[List.range_succ,cX];rfl
theorem jI:∀u,(Bt mv pt u).flatten=kry mv pt u
 | 0=>rfl
 | u+1=>by
  have e:Bt mv pt (u+1)=pt :: (Bt mv pt u).map (List.map (vX mv)):=by
   unfold Bt;rw[List.range_succ_eq_map,dZ,vd];congr 1
   ·exact j3 pt
   ·rw[vd];refine List.map_congr_left λs _=>?_
    show pt.map (js mv (s+1))=(pt.map (js mv s)).map (vX mv)
    rw[vd];rfl
  rw[e,eo,<- List.map_flatten,jI u];rfl
end
inductive Ak (K:FG9) (C:Addr) (vs:List V) (H:Hp) (Q:VK) (E9:XK):Prop
 | mk (x:Addr) (T:Nat) (H0:Hp) (mv pt lk:LR9):vs=[.ref x,.int T]->T<=100->jZ K H0 H C x mv pt lk->gD mv pt lk->(∀r H',H r=none->aH H H'->bR K H H' r (List.replicate T (List.replicate pt.length 0))->Q (.ref r) H')->Ak K C vs H Q E9
inductive Ap (K:FG9) (C:Addr) (vs:List V) (H:Hp) (Q:VK) (E9:XK):Prop
 | mk (x s g:Addr) (T:Nat) (H0:Hp) (mv pt lk:LR9) (st go:List Rat):vs=[.ref x,.ref s,.ref g,.int T]->T<=99->jZ K H0 H C x mv pt lk->gD mv pt lk->E7 mv pt lk->cx K H s st->st.length=mv.length->cx K H g go->go.length=mv.length->Br mv pt st (List.replicate T (List.replicate pt.length 0))->(∀x∈go,gL x)->(∀r H',H r=none->aH H H'->cx K H' r (kY mv T st go)->Q (.ref r) H')->Ap K C vs H Q E9
theorem Tp.up (h:Tp M W q) (k:Nat) (hx:W*k<=x):Tp (M*k) x q:=by
 obtain ⟨z,e,b⟩:=h;exact ⟨z*k,by rw[jJ,aR,<- e,a7];grind,by rw[di,cF];exact ai (aG _ b) hx⟩
theorem rX {mv:LR9} (wm:∀xs∈mv,xs.length=mv.length):∀t,js mv t (List.replicate mv.length 0)=List.replicate mv.length 0
 | 0=>rfl
 | t+1=>by
  show vX mv (js mv t _)=_
  rw[rX wm t];refine Cs (by rw[vW,aL]) λc hc=>?_
  rw[vW] at hc;rw[JN wm (by rw[aL]) hc,c4 λj _=>?_]
  ·rw[aa,gi,if_pos hc];rfl
  ·rw[aa,gi]
   split <;> exact gM _
section
variable {mv pt lk pus:LR9} {pr go:List Rat} {T:Nat}
theorem F6 (wm:∀xs∈mv,xs.length=mv.length) (lg:go.length=mv.length):kY mv T (List.replicate mv.length 0) go=go:=by
 unfold kY;rw[rX wm];refine Cs (by rw[bg,aL,lg,kr]) λc hc=>?_
 rw[bg,aL,lg,kr] at hc;rw[Fh (by rw[aL,lg]) (by lia)];have:(List.replicate mv.length (0:Rat)).getD c 0=0:=by rw[aa,gi];split <;> rfl
 rw[this];grind
theorem cf0 (D:gD mv pt lk):Br mv pt (List.replicate mv.length 0) (List.replicate T (List.replicate pt.length 0)):=λk hk=>by
 rw[aL] at hk
 have e:oG mv pt (List.replicate mv.length 0) (List.replicate T (List.replicate pt.length 0)) k=List.replicate mv.length 0:=by
  have:=BI (T:=k) D (st:=List.replicate mv.length 0) (by rw[aL]);rw[rX D.mw] at this;refine Eq.trans ?_ this;unfold oG;rw[List.take_replicate,List.take_replicate,Hu hk,kr]
 refine ⟨1,1,by decide,cn,cn,λx hx=>?_,λxs hx x hx'=>?_⟩
 ·rw[e] at hx;rw[(dk.mp hx).2];exact Fr.zero
 ·rw[(dk.mp hx).2] at hx';rw[(dk.mp hx').2];exact Fr.zero
end
structure My (mv pt:LR9) (st pu:List Rat):Prop where
 f2:∀xs∈mv,CJ xs st
 part:∀kk,∀x∈nextK mv pt st pu kk,gL x
 su:∀u∈pu,gL u
 sp:∀row∈pt,∀y∈row,gL y
 mul:∀u∈pu,∀row∈pt,∀y∈row,gL (u*y)
inductive Al (K:FG9) (vs:List V) (H:Hp) (Q:VK) (E9:XK):Prop
 | mk (r s u:Addr) (H0:Hp) (mv pt lk:LR9) (st pu:List Rat):vs=[.ref r,.ref s,.ref u]->fu K H0 H r mv pt lk->gD mv pt lk->cx K H s st->cx K H u pu->st.length=mv.length->pu.length=pt.length->My mv pt st pu->(∀t H',H t=none->aH H H'->cx K H' t (fD mv pt st pu)->Q (.ref t) H')->Al K vs H Q E9
structure Bd (mv pt:LR9) (M1 M2 V a1 a2 c:Nat):Prop where
 m1:0 < M1
 m2:0 < M2
 b1:M1<=2^a1
 b2:M2<=2^a2
 gm:GF M1 V mv
 gp:GF M2 V pt
 vc:(mv.length+4)*V<=2^c
section
variable {mv pt lk pus:LR9} {st pu go:List Rat} {M1 M2 V a1 a2 c N Np p t T ν:Nat}
theorem Bd.v1 (B:Bd mv pt M1 M2 V a1 a2 c):V<=2^c:=ai (gO _ (by lia)) B.vc
theorem zF (h0:0 < M) (h1:M<=2^a) (h2:W<=2^b) (hab:a+b<=3990) (h:Fr M W x):gL x:=by
 refine fg (Tp.of h (av _)) h0 (ai h1 (au (by decide) (by lia))) ?_;refine ai (aF h2 h1) ?_;rw[<- aE];exact au (by decide) (by lia)
theorem Bd.next (B:Bd mv pt M1 M2 V a1 a2 c) (D:gD mv pt lk) (ls:st.length=mv.length) (lu:pu.length=pt.length) (N0:0 < N) (dv:M2*Np∣M1*N) (hs:∀x∈st,Fr N (2^p) x) (hu:∀x∈pu,Fr Np (2^p) x) (hN:N<=2^ν) (sz:a1+ν+c+p<=3900) (sp2:a2+c<=3900):My mv pt st pu/\∀x∈fD mv pt st pu,Fr (M1*N) (2^(c+p)) x:=by
 have V1:=B.v1;have i4:=D.i4;have MN0:0 < M1*N:=bN B.m1 N0;have MN:M1*N<=2^(a1+ν):=by rw[aE];exact aF B.b1 hN
 have Np0:0 < Np:=by
  rcases o6 Np with z | z
  ·rw[z,D8] at dv;have:=Nat.eq_zero_of_zero_dvd dv
   lia
  ·exact z
 have NpMN:Np<=M1*N:=ai (gO _ B.m2) (jx MN0 dv)
 have one:∀u∈pu,∀row∈pt,∀y∈row,Fr (M1*N) (V*2^p) (u*y):=λu hu' row hr y hy=>by
  have:=(B.gp row hr y hy).mul (hu u hu');rw[eO];exact this.dvd dv
 have part:∀kk,kk<=pt.length->∀x∈nextK mv pt st pu kk,Fr (M1*N) (2^(c+p)) x:=λkk hkk x hx=>by
  obtain ⟨j,hj,e⟩:=bM hx;rw[hJ] at hj;have e2:=v8 (mv:=mv) (pt:=pt) (st:=st) (pu:=pu) (k:=kk) hj;rw[aa,af (by rw[hJ];exact hj)] at e2;have e3:x=bI (mv[j]++(pt.map λxs=>xs.getD j 0).take kk) (st++pu.take kk):=by rw[<- e,<- e2];rfl
  have wj:=D.mw _ (aK hj);rw[e3,nV (by lia)];have f1:=Fr.dot (B.gm _ (aK hj)) hs;rw[wj] at f1
  have f2:Fr (M1*N) (4*(V*2^p)) (bI ((pt.map λxs=>xs.getD j 0).take kk) (pu.take kk)):=by
   have hc:∀y∈(pt.map λxs=>xs.getD j 0).take kk,Fr M2 V y:=λy hy=>by
    obtain ⟨xs,hxs,rfl⟩:=ay.mp (bS hy);rw[aa];cases e:xs[j]? with
    | none=>exact Fr.zero
    | some z=>exact B.gp xs hxs z (ar e)
   have:=Fr.dot (ys:=pu.take kk) hc (λy hy=>hu y (bS hy));refine (this.dvd dv).mono (aG _ ?_);rw[bX,ak]
   lia
  refine (f1.add f2).mono ?_;rw[<- mL,aE,<- cN];exact aG _ B.vc
 have szb:∀{x:Rat},Fr (M1*N) (2^(c+p)) x->gL x:=λh=>zF MN0 MN (av _) (by lia) h
 have all:∀kk,∀x∈nextK mv pt st pu kk,Fr (M1*N) (2^(c+p)) x:=λkk x hx=>by
  rcases gN pt.length kk with z | z
  ·have e:nextK mv pt st pu kk=nextK mv pt st pu pt.length:=(ox (by lia) (by lia)).trans (ox (av _) (by lia)).symm;rw[e] at hx;exact part _ (av _) x hx
  ·exact part kk z x hx
 refine ⟨⟨λxs hx=>⟨a1,c,ν,p,⟨M1,V,B.m1,B.b1,V1,B.gm xs hx⟩,⟨N,2^p,N0,hN,av _,hs⟩,by lia⟩,λkk x hx=>szb (all kk x hx),λu hu'=>?_,λrow hr y hy=>?_,λu hu' row hr y hy=>szb ((one u hu' row hr y hy).mono (by rw[aE];exact aG _ V1))⟩,λx hx=>?_⟩
 ·exact zF Np0 (ai NpMN MN) (av _) (by lia) (hu u hu')
 ·exact zF B.m2 B.b2 V1 (by lia) (B.gp row hr y hy)
 ·rw[<- ox (k:=pt.length) (av _) (by lia)] at hx;exact all _ x hx
end
section
variable {mv pt lk pus:LR9} {st pu go:List Rat} {M1 M2 V a1 a2 c N Np p t T ν k:Nat}
def LB (mv pt pus:LR9) (st:List Rat):Prop:=∃M1 M2 V a1 a2 c N Np p ν,Bd mv pt M1 M2 V a1 a2 c/\0 < N/\N<=2^ν/\M2*Np∣N/\(∀x∈st,Fr N (2^p) x)/\(∀xs∈pus,∀x∈xs,Fr Np (2^p) x)/\a1*(pus.length+1)+ν+c*(pus.length+1)+p<=3900/\a2+c<=3900
theorem nJ (h:M<=2^a) (hN:N<=2^ν):M^t*N<=2^(a*t+ν):=by
 rw[aE,GX];exact aF (Nat.pow_le_pow_left h t) hN
theorem Bd.states (B:Bd mv pt M1 M2 V a1 a2 c) (D:gD mv pt lk) (ls:st.length=mv.length) (wp:∀xs∈pus,xs.length=pt.length) (N0:0 < N) (hN:N<=2^ν) (dv:M2*Np∣N) (hs:∀x∈st,Fr N (2^p) x) (hu:∀xs∈pus,∀x∈xs,Fr Np (2^p) x) (sz:a1*(pus.length+1)+ν+c*(pus.length+1)+p<=3900) (sp2:a2+c<=3900):∀k,k<=pus.length->(∀x∈oG mv pt st pus k,Fr (M1^k*N) (2^(c*k+p)) x)/\∀pu,pus[k]?=some pu->My mv pt (oG mv pt st pus k) pu:=by
 have key:∀k,k<=pus.length->(∀x∈oG mv pt st pus k,Fr (M1^k*N) (2^(c*k+p)) x)->∀pu,pus[k]?=some pu->My mv pt (oG mv pt st pus k) pu/\∀x∈fD mv pt (oG mv pt st pus k) pu,Fr (M1*(M1^k*N)) (2^(c+(c*k+p))) x:=λk hk f pu hpu=>by
  have mp:=ar hpu;have kl:=(aV.mp hpu).1;have e1:a1*(k+1)<=a1*(pus.length+1):=aM _ (by lia);have e2:c*(k+1)<=c*(pus.length+1):=aM _ (by lia);rw[gE,Nat.mul_one] at e1 e2;refine B.next D (j6 ls hk) (wp pu mp) (bN (yJ B.m1) N0) ?_ f (λx hx=>(hu pu mp x hx).mono (au (by decide) (Nat.le_add_left _ _))) (nJ B.b1 hN) (by lia) sp2;exact Bs dv (Bs (uJ _ _) (uJ _ _))
 have fr:∀k,k<=pus.length->∀x∈oG mv pt st pus k,Fr (M1^k*N) (2^(c*k+p)) x:=by
  intro k
  induction k with
  | zero =>
   intro _ x hx;rw[Nat.pow_zero,mK,D8,Nat.zero_add];exact hs x hx
  | succ k ih =>
   intro hk x hx;have e:=af (show k < pus.length by lia);rw[mU e] at hx;have:=(key k (by lia) (ih (by lia)) _ e).2 x hx;rw[<- cN,cH M1,<- jh,show c+(c*k+p)=c*(k+1)+p by rw[gE];lia] at this;exact this
 exact λk hk=>⟨fr k hk,λpu hpu=>(key k hk (fr k hk) pu hpu).1⟩
theorem LB.nx (h:LB mv pt pus st) (D:gD mv pt lk) (ls:st.length=mv.length) (wp:∀xs∈pus,xs.length=pt.length) (hk:k<=pus.length) (hpu:pus[k]?=some pu):My mv pt (oG mv pt st pus k) pu:=by
 obtain ⟨M1,M2,V,a1,a2,c,N,Np,p,ν,B,N0,hN,dv,hs,hu,sz,sp2⟩:=h;exact (B.states D ls wp N0 hN dv hs hu sz sp2 k hk).2 pu hpu
def Nt (mv:LR9) (st:List Rat) (T:Nat):Prop:=∃M1 V a1 c N p ν,0 < M1/\M1<=2^a1/\GF M1 V mv/\(mv.length+4)*V<=2^c/\0 < N/\N<=2^ν/\(∀x∈st,Fr N (2^p) x)/\a1*(T+1)+ν+c*(T+1)+p<=3900
theorem KQ (gm:GF M1 V mv) (wm:∀xs∈mv,xs.length=mv.length) (vc:(mv.length+4)*V<=2^c) (ls:st.length=mv.length) (hs:∀x∈st,Fr N (2^p) x):∀t,∀x∈js mv t st,Fr (M1^t*N) (2^(c*t+p)) x:=by
 intro t
 induction t with
 | zero =>
  intro x hx;rw[Nat.pow_zero,mK,D8,Nat.zero_add];exact hs x hx
 | succ t ih =>
  intro x hx;obtain ⟨row,hr,rfl⟩:=ay.mp (show x∈mv.map λxs=>bI xs (js mv t st) from hx);have f:=Fr.dot (gm row hr) ih;rw[<- cN,cH M1,<- jh] at f;refine f.mono ?_;rw[wm row hr,<- cN,show c*(t+1)+p=c+(c*t+p) by rw[gE];lia,aE 2 c];exact aG _ (ai (aG V (show mv.length<=mv.length+4 by lia)) vc)
theorem Nt.fit (h:Nt mv st T) (wm:∀xs∈mv,xs.length=mv.length) (ls:st.length=mv.length) (ht:t<=T):(∀xs∈mv,CJ xs (js mv t st))/\∀x∈js mv t st,gL x:=by
 obtain ⟨M1,V,a1,c,N,p,ν,m0,m1,gm,vc,N0,hN,hs,sz⟩:=h;have f:=KQ gm wm vc ls hs t;have V1:V<=2^c:=ai (gO _ (by lia)) vc;have e1:a1*t<=a1*T:=aM _ ht;have e2:c*t<=c*T:=aM _ ht;rw[gE,gE,Nat.mul_one,Nat.mul_one] at sz;exact ⟨λxs hx=>⟨a1,c,a1*t+ν,c*t+p,⟨M1,V,m0,m1,V1,gm xs hx⟩,⟨M1^t*N,2^(c*t+p),bN (yJ m0) N0,nJ m1 hN,av _,f⟩,by lia⟩,λx hx=>zF (bN (yJ m0) N0) (nJ m1 hN) (av _) (by lia) (f x hx)⟩
def MP (mv pt:LR9) (T:Nat):Prop:=∃M1 M2 V a1 a2 c,Bd mv pt M1 M2 V a1 a2 c/\a1*(T+1)+a2+c*(T+2)<=3900
theorem MP.row (h:MP mv pt T) (wm:∀xs∈mv,xs.length=mv.length) (wp:∀xs∈pt,xs.length=mv.length):∀xs∈pt,Nt mv xs T:=λxs hx=>by
 obtain ⟨M1,M2,V,a1,a2,c,B,sz⟩:=h;refine ⟨M1,V,a1,c,M2,c,a2,B.m1,B.b1,B.gm,B.vc,B.m2,B.b2,λx hx'=>(B.gp xs hx x hx').mono B.v1,?_⟩;rw[gE c T 2] at sz;rw[gE c T 1]
 lia
end
inductive C5 (K:FG9) (vs:List V) (H:Hp) (Q:VK) (E9:XK):Prop
 | mk (r s p:Addr) (H0 H1:Hp) (mv pt lk pus:LR9) (st:List Rat):vs=[.ref r,.ref s,.ref p]->fu K H0 H r mv pt lk->gD mv pt lk->cx K H s st->st.length=mv.length->bR K H1 H p pus->pus.length<=100->(∀xs∈pus,xs.length=pt.length)->LB mv pt pus st->(∀t H',H t=none->aH H H'->cx K H' t (oG mv pt st pus pus.length)->Q (.ref t) H')->C5 K vs H Q E9
section
variable {X:Cx}
theorem EY (hc:X.calm=true):mJ X (.builtin "max") (λxs H Q=>∃(p:Addr) (ns:List Int),xs=[.ref p]/\bL X.K H p (ns.map V.int)/\0 < ns.length/\∀M,M∈ns->(∀a,a∈ns->a<=M)->Q (.int M) H):=by
 intro pins s σ H xs us Q I r h;obtain ⟨p,ns,rfl,hp,hne,q⟩:=h;obtain ⟨u,rfl,ru⟩:=vals1 r;cases ru;obtain ⟨its,r2,pl,_⟩:=I.list hp;have hi:=intsAre_of r2;have hl:=pl.isList;obtain ⟨xs,e⟩:=hi.allInts.items
 have hns:ns=xs.toList.map (·.1):=by
  rw[<- hi.numsOf,<- nums_intItems,<- e]
 have hsz:0 < xs.size:=by
  have h3:=hne;rw[hns,ak,Array.length_toList] at h3;exact h3
 rw[e] at hl;refine max_intList (I.ok.hd hc) hl hsz λv h' tk hv hk=>?_
 obtain ⟨t,rfl⟩:=intItems_at hv;obtain ⟨h1,h2⟩:=argBest_gt (numAt xs) (xs.size - 1);refine ⟨.int _,H,I.kept hk,⟨_,rfl⟩,q _ ?_ λa ha=>?_⟩
 ·rw[hns,numAt_eq];exact getD_in (by rw[ak,Array.length_toList];lia)
 ·rw[hns] at ha;obtain ⟨j,hj,rfl⟩:=mem_getD ha;rw[ak,Array.length_toList] at hj;rw[<- numAt_eq];exact h2 j (by lia)
end
theorem yc {α β:Type} {f:α->β}:∀{l1:List α} {l2:List β},Paired (λa b=>b=f a) l1 l2->l2=l1.map f
 | _,_,.nil=>rfl
 | _,_,.cons h r=>by rw[h,yc r];rfl
def StP (mv pt:LR9) (T:Nat):Prop:=T<=12/\(T<=3\/((∀xs∈mv++pt,∀x∈xs,x.den<=9/\x.num.natAbs < 1000)/\(5 < mv.length->T<=mv.length)/\(3<=mv.length->mv.length<=5->T<=mv.length+1)))
def Ly (x:Rat):Int:=(x.den:Int)+(x.num.natAbs:Int) / 1000*9
theorem Jt (h:Ly x<=9):x.den<=9/\x.num.natAbs < 1000:=by
 unfold Ly at h;have:=x.den_pos
 lia
inductive xQ (K:FG9) (vs:List V) (H:Hp) (Q:VK) (E9:XK):Prop
 | mk (b r:Addr) (H0:Hp) (mv pt lk:LR9):vs=[.ref b,.ref r]->fI H b->H0 b≠none->fu K H0 H r mv pt lk->gD mv pt lk->(∀xs∈mv++pt,∀x∈xs,gL x)->(∀(T:Nat) H',StP mv pt T->fI H' b->cG b H H'->Q (.int T) H')->xQ K vs H Q E9
inductive Ah (K:FG9) (vs:List V) (H:Hp) (Q:VK) (E9:XK):Prop
 | mk (b r:Addr) (T w:Nat) (H0:Hp) (mv pt lk:LR9):vs=[.ref b,.ref r,.int T,.int w]->T<=100->1<=w->w<=1000->fI H b->H0 b≠none->fu K H0 H r mv pt lk->gD mv pt lk->(∀p pus H',H p=none->bR K H H' p pus->pus.length=T->(∀xs∈pus,xs.length=pt.length/\∀x∈xs,Dr (max w 6) x)->fI H' b->cG b H H'->Q (.ref p) H')->Ah K vs H Q E9
section
variable {mv pt lk pus:LR9} {st pr go:List Rat} {T k:Nat}
theorem EG (D:gD mv pt lk) (ls:st.length=mv.length) (lg:go.length=mv.length) (lp:pus.length=T) (wp:∀xs∈pus,xs.length=pt.length) (h1:oG mv pt st pus T=go) (lpr:pr.length=mv.length) (h2:∀xs∈kry mv pt T,bI xs pr=0):bI pr (kY mv T st go)=0:=by
 have ll:=AS (T:=T) ls lg;rw[dD (by lia),lpr];have f:=CY (pus:=pus) (st:=st) D ls T (by lia) wp;rw[h1] at f;have wT:=nN (mv:=mv) rfl D.pw T
 have e1:(bH mv.length λc=>pr.getD c 0*(kY mv T st go).getD c 0)=bH (kry mv pt T).length λi=>((pus.take T).reverse.flatten).getD i 0*bH mv.length λc=>cY (kry mv pt T) i c*pr.getD c 0:=by
  have q:∀c,c < mv.length->pr.getD c 0*(kY mv T st go).getD c 0=bH (kry mv pt T).length λi=>((pus.take T).reverse.flatten).getD i 0*(cY (kry mv pt T) i c*pr.getD c 0):=λc hc=>by
   have e:(kY mv T st go).getD c 0=bH (kry mv pt T).length λi=>((pus.take T).reverse.flatten).getD i 0*cY (kry mv pt T) i c:=by
    unfold kY;rw[Fh (by rw[lg,ou ls]) (by lia),f c hc];grind
   rw[e,<- cQ];exact aZ λi _=>by grind
  rw[aZ q,gX];exact aZ λi _=>cQ
 rw[e1];refine c4 λi hi=>?_
 have w1:=wT _ (aK hi);have:=h2 _ (aK hi);rw[dD (by lia),w1] at this
 have q:(bH mv.length λc=>cY (kry mv pt T) i c*pr.getD c 0)=0:=by
  refine Eq.trans (aZ λc _=>?_) this;unfold cY;rw[aa (l:=kry mv pt T),af hi];rfl
 rw[q,gM]
end
def ME (pt:LR9) (T w:Nat) (pus:LR9):Prop:=pus.length=T/\∀xs∈pus,xs.length=pt.length/\∀x∈xs,Dr (max w 6) x
theorem FY (ws vs:List V) (M1 M2 M3:Nat):∃μ:V->Nat,(∀x∈ws,μ x=M2)/\(∀x∈vs,x∉ws->μ x=M3)/\(∀x,x∉ws->x∉vs->μ x=M1)/\∀x,μ x=M1\/μ x=M2\/μ x=M3:=by
 classical
 refine ⟨λx=>if x∈ws then M2 else if x∈vs then M3 else M1,λx h=>if_pos h,λx h h'=>?_,λx h h'=>?_,λx=>?_⟩
 ·show (if x∈ws then M2 else if x∈vs then M3 else M1)=M3
  rw[if_neg h',if_pos h]
 ·show (if x∈ws then M2 else if x∈vs then M3 else M1)=M1
  rw[if_neg h,if_neg h']
 ·show (if x∈ws then M2 else if x∈vs then M3 else M1)=M1\/(if x∈ws then M2 else if x∈vs then M3 else M1)=M2\/(if x∈ws then M2 else if x∈vs then M3 else M1)=M3
  by_cases h:x∈ws
  ·rw[if_pos h];exact .inr (.inl rfl)
  ·rw[if_neg h];by_cases h':x∈vs
   ·rw[if_pos h'];exact .inr (.inr rfl)
   ·rw[if_neg h'];exact .inl rfl
theorem iN.apart {K:FG9} (h:iN K A H n C m p l b q0 us ws vs):(∀x∈us,x∉ws/\x∉vs)/\∀x∈vs,x∉ws:=by
 obtain ⟨n1,n2,n3⟩:=dc.mp h.nd;obtain ⟨n4,n5,n6⟩:=dc.mp n1;exact ⟨λx hx=>⟨λz=>n3 x (az.mpr (.inl hx)) x z rfl,λz=>n6 x hx x z rfl⟩,λx hx z=>n3 x (az.mpr (.inr hx)) x z rfl⟩
theorem iN.fr3 {K:FG9} (h:iN K A H n (λ_=>Dr (2^c)) m p l b q0 us ws vs):∃M1 M2 M3,0 < M1/\0 < M2/\0 < M3/\M1<=2^(c*(n*n))/\M2<=2^(c*(ws.length*n))/\M3<=2^(c*(vs.length*n))/\(∀x∈us,eK K A H n (Fr M1 (2^c)) x)/\(∀x∈ws,eK K A H n (Fr M2 (2^c)) x)/\∀x∈vs,eK K A H n (Fr M3 (2^c)) x:=by
 have one:∀l:List V,(∀x∈l,x∈us++vs++ws)->∃M,0 < M/\M<=2^(c*(l.length*n))/\∀x∈l,eK K A H n (Fr M (2^c)) x:=λl hl=>by
  obtain ⟨ra,pa,la,ha⟩:=vM λx hx=>h.row x (hl x hx)
  obtain ⟨M,m0,m1,m2⟩:=Ip (c:=c) (n:=n) (rows:=ra) ha;exact ⟨M,m0,by rw[la] at m1;exact m1,BR pa λqs hq=>⟨(ha qs hq).1,m2 qs hq⟩⟩
 obtain ⟨M1,a1,a2,a3⟩:=one us λx hx=>by simp [hx]
 obtain ⟨M2,b1,b2,b3⟩:=one ws λx hx=>by simp [hx]
 obtain ⟨M3,c1,c2,c3⟩:=one vs λx hx=>by simp [hx]
 rw[h.lm] at a2;exact ⟨M1,M2,M3,a1,b1,c1,a2,b2,c2,a3,b3,c3⟩
inductive xV (K:FG9) (xs:List V) (H:Hp) (Q:VK) (E9:XK):Prop
 | mk (b m p l q0:Addr) (n V1:Nat) (μ:V->Nat) (A:Addr->Prop) (us ws vs:List V):xs=[.ref b,.ref m,.ref p,.ref l]->Bp A m p l b q0->iN K A H n (λx=>Fr (μ x) V1) m p l b q0 us ws vs->n<=8->ws.length<=4->vs.length<=4->(∀x,0 < μ x)->(∀x,μ x<=2^800)->(∃M,∀x,x∉ws->x∉vs->μ x=M)->V1<=2^20->(∀q,H q=none->A q)->(∀r us' H',H' r=some (.tup [.ref m,.ref p,.ref l])->iN K A H' n (λx=>Fr (μ x) (9^3*V1)) m p l b q0 us' ws vs->fZ A b m H H'->Q (.ref r) H')->xV K xs H Q E9
def Nn (n i o w c:Nat) (mv pt lk:LR9):Prop:=∃M1 M2 M3 V1:Nat,0 < M1/\0 < M2/\0 < M3/\GF M1 V1 mv/\GF M2 V1 pt/\GF M3 V1 lk/\((w<=9/\M1=2520/\M2=2520/\M3=2520/\V1=9^3*9)\/(9 < w/\M1<=2^(c*(n*n))/\M2<=2^(c*(i*n))/\M3<=2^(c*(o*n))/\V1=9^3*2^c))
inductive xS (K:FG9) (vs:List V) (H:Hp) (Q:VK) (E9:XK):Prop
 | mk (b:Addr) (n i o w c:Nat):vs=[.ref b,.int n,.int i,.int o,.int w]->fI H b->n<=8->i<=4->o<=4->1<=w->w<=1000000->max w 6<=2^c->c<=20->c*((n+i+o)*n)<=800->(∀r mv pt lk H',fu K H H' r mv pt lk->mv.length=n->pt.length=i->lk.length=o->gD mv pt lk->Nn n i o w c mv pt lk->fI H' b->cG b H H'->Q (.ref r) H')->xS K vs H Q E9
def Rg (mv pt:LR9) (w:Nat):Prop:=(w<=9/\Bd mv pt 1 1 (9^3) 0 0 14)\/(w<=9/\mv.length<=5/\Bd mv pt 2520 2520 (9^3*9) 12 12 16)\/(w=1000/\mv.length<=2/\∃M1 M2,Bd mv pt M1 M2 (9^3*2^20) 80 160 33)
def Ic (K:FG9):Sp:=λvs H Q _=>∃b:Addr,vs=[.ref b]/\fI H b /\
 ∀t r (w a c:Nat) mv pt lk H',H' t=some (.tup [.ref r,.int w])->fu K H H' r mv pt lk->gD mv pt lk->E7 mv pt lk->Lp mv pt a c->Rg mv pt w->1<=w->w<=1000->fI H' b->cG b H H'->Q (.ref t) H'
theorem Cp {M V:Nat} (h:GF M V l) (k:Nat):GF (k*M) V l:=λxs hx x hx'=>(h xs hx x hx').scaleL k
theorem Nn.n {n i o w c:Nat} (h:Nn n i o w c mv pt lk):PtF n i o w c mv pt lk:=by
 obtain ⟨M1,M2,M3,V1,a1,a2,a3,f1,f2,f3,hc⟩:=h;rcases hc with ⟨w9,rfl,rfl,rfl,e⟩ | ⟨w9,e1,e2,e3,e⟩
 ·exact ⟨2520,V1,by decide,f1,f2,f3,.inl ⟨w9,rfl,e⟩⟩
 ·refine ⟨M1*M2*M3,V1,bN (bN a1 a2) a3,?_,?_,?_,.inr ⟨w9,?_,e⟩⟩
  ·have:=Cp f1 (M2*M3);rwa [show M2*M3*M1=M1*M2*M3 by rw[cH (M2*M3),cN]] at this
  ·have:=Cp f2 (M1*M3);rwa [show M1*M3*M2=M1*M2*M3 by rw[cN,cH M3,cN]] at this
  ·exact Cp f3 (M1*M2)
  ·refine ai (aF (aF e1 e2) e3) ?_;rw[<- aE,<- aE,show c*((n+i+o)*n)=c*(n*n)+c*(i*n)+c*(o*n) by rw[mL,mL,gE,gE]];exact av _
theorem zM:bI (x :: xs) (y :: ys)=x*y+bI xs ys:=by
 unfold bI;rw[gP,LD]
theorem zJ:bI [] ys=0:=rfl
theorem Jq:bI xs []=0:=by
 unfold bI;rw[List.zipWith_nil_right];rfl
section
variable {mv pt lk pus:LR9} {st pu go pr:List Rat} {M1 M2 V a1 a2 c B b g p t T w:Nat}
theorem Bd.kry (X:Bd mv pt M1 M2 V a1 a2 c) (D:gD mv pt lk):∀t,∀xs∈kry mv pt t,∀x∈xs,Fr (M1^(t - 1)*M2) (2^(c*t)) x:=by
 intro t
 induction t with
 | zero=>intro xs hx;exact nomatch hx
 | succ t ih =>
  intro xs hx x hx';rcases az.mp (show xs∈pt++(L2.kry mv pt t).map (vX mv) from hx) with hx | hx
  ·refine Fr.up (X.gp xs hx x hx') (uJ _ _) (ai X.v1 (au (by decide) ?_));exact cT _ (by lia)
  ·obtain ⟨ys,hy,rfl⟩:=ay.mp hx;obtain ⟨row,hr,rfl⟩:=ay.mp (show x∈mv.map λzs=>bI zs ys from hx');rcases t with _ | t
   ·exact nomatch hy
   have f:=Fr.dot (X.gm row hr) (ih ys hy);rw[show M1*(M1^(t+1 - 1)*M2)=M1^(t+1+1 - 1)*M2 by rw[<- cN,show t+1 - 1=t by lia,show t+1+1 - 1=t+1 by lia,jh,cH M1]] at f;refine f.mono ?_;rw[D.mw row hr,<- cN,show c*(t+1+1)=c+c*(t+1) by rw[gE c (t+1)];lia,aE 2 c];exact aG _ (ai (aG V (show mv.length<=mv.length+4 by lia)) X.vc)
end
section
variable {mv pt lk pus pus':LR9} {st st' pu go pr:List Rat} {M1 M2 V a1 a2 c B b1 b2 g p t T w:Nat}
theorem wL:∀(xs:List Rat) (k:Nat),bI xs (List.replicate k 0)=0
 | [],_=>by simp [bI]
 | x :: xs,0=>by simp [bI]
 | x :: xs,k+1=>by
  have:=wL xs k;simp only[bI,eJ,gP,LD] at this ⊢;rw[this];grind
end
def uS (ws col:List Rat):List Rat:=List.zipWith (λv w=>v / w) col ws
def ve (ws:List Rat) (T:Nat):List Rat:=(List.replicate T ws).flatten
def kX (rows:LR9) (ws:List Rat) (n:Nat):LR9:=rz ((cJ rows n).map (uS ws)) rows n
def gF (rows:LR9) (ws x y:List Rat):Rat:=bH rows.length λk=>bI (rows.getD k []) x*bI (rows.getD k []) y / ws.getD k 0
def G9 (rows:LR9) (ws:List Rat) (n:Nat) (g x:List Rat):Prop:=x.length=n/\g.length=n/\∀y:List Rat,y.length=n->bI y g=gF rows ws y x
section
variable {rows more R:LR9} {ws wm x x1 x2 x' y g g1 g2:List Rat} {n:Nat} {ps:List Nat} {c:Rat}
theorem uQ {f:Nat->Rat}:∀k,(∀j,j < k->0<=f j)->0<=bH k f
 | 0,_=>Rat.le_refl
 | k+1,h=>by
  have h1:=uQ k λj hj=>h j (by lia)
  have h2:=h k (by lia);have e:bH (k+1) f=bH k f+f k:=rfl;rw[e];grind
theorem CW {f:Nat->Rat}:∀k,(∀j,j < k->0<=f j)->bH k f=0->∀j,j < k->f j=0
 | 0,_,_,j,hj=>absurd hj (Ht _)
 | k+1,h,z,j,hj=>by
  have h1:=uQ k λj hj=>h j (by lia)
  have h2:=h k (by lia);have e:bH (k+1) f=bH k f+f k:=rfl;rw[e] at z;by_cases q:j=k
  ·rw[q];grind
  ·exact CW k (λj hj=>h j (by lia)) (by grind) j (by lia)
theorem Kp (hw:∀xs∈rows,xs.length=n) (hk:k < rows.length):(rows.getD k []).length=n:=by
 rw[aa,af hk];exact hw _ (aK _)
theorem GA (hw:∀xs∈rows,xs.length=n) (hk:k < rows.length) (lx:x.length=n):bI (rows.getD k []) x=bH n λb=>cY rows k b*x.getD b 0:=by
 have l:=Kp hw hk;rw[dD (by rw[l,lx]),l];rfl
theorem Jj:gF rows ws x y=gF rows ws y x:=aZ λk _=>by rw[eO]
theorem Dy (hw:∀xs∈rows,xs.length=n) (lw:ws.length=rows.length) (lx:x.length=n) (ha:a < n):∃row,(kX rows ws n)[a]?=some row/\row.length=n/\bI row x=bH rows.length λk=>cY rows k a*(bI (rows.getD k []) x / ws.getD k 0):=by
 refine ⟨(cJ rows n).map λys=>bI ys (uS ws (rows.map λxs=>xs.getD a 0)),?_,by rw[ak,cZ],?_⟩
 ·unfold kX rz;rw[aB,aB,pV ha];rfl
 ·have e1:∀b,b < n->((cJ rows n).map λys=>bI ys (uS ws (rows.map λxs=>xs.getD a 0))).getD b 0=bH rows.length λk=>cY rows k b*(cY rows k a / ws.getD k 0):=λb hb=>by
   rw[aa,aB,pV hb];show bI (rows.map λxs=>xs.getD b 0) _=_
   have l1:(uS ws (rows.map λxs=>xs.getD a 0)).length=rows.length:=by
    unfold uS;rw[bg,ak,lw,kr]
   rw[dD (by rw[ak,l1]),ak];refine aZ λk hk=>?_
   have at_:∀j,(rows.map λxs=>xs.getD j 0).getD k 0=cY rows k j:=λj=>by
    rw[getD_map hk];unfold cY;rw[aa (l:=rows),af hk];rfl
   rw[at_];congr 1;unfold uS;rw[aa,bx,aB,af hk,af (show k < ws.length by lia),aa (l:=ws),af (show k < ws.length by lia)];show (rows[k].getD a 0) / ws[k]=_
   unfold cY;rw[aa (l:=rows),af hk];rfl
  rw[dD (by rw[ak,cZ,lx]),ak,cZ,aZ λb hb=>by rw[e1 b hb]]
  have e2:(λb=>(bH rows.length λk=>cY rows k b*(cY rows k a / ws.getD k 0))*x.getD b 0)=λb=>bH rows.length λk=>(cY rows k a / ws.getD k 0)*(cY rows k b*x.getD b 0):=by
   funext b;rw[eO,<- cQ];exact aZ λk _=>by grind
  rw[e2,gX];refine aZ λk hk=>?_
  rw[cQ,<- GA hw hk lx,eU,eU];grind
theorem Au (hw:∀xs∈rows,xs.length=n) (lg:g.length=n) (lx:x.length=n) (h:∀a,a < n->g.getD a 0=bH rows.length λk=>cY rows k a*(bI (rows.getD k []) x / ws.getD k 0)):G9 rows ws n g x:=by
 refine ⟨lx,lg,λy ly=>?_⟩;rw[dD (by rw[ly,lg]),ly,aZ λa ha=>by rw[h a ha,<- cQ]];rw[gX];refine aZ λk hk=>?_
 have e:(λa=>y.getD a 0*(cY rows k a*(bI (rows.getD k []) x / ws.getD k 0)))=λa=>(bI (rows.getD k []) x / ws.getD k 0)*(cY rows k a*y.getD a 0):=by
  funext a;grind
 rw[e,cQ,<- GA hw hk ly,eU,eU];grind
theorem oA:(kX rows ws n).length=n:=by unfold kX rz;rw[ak,ak,cZ]
theorem qr:∀xs∈kX rows ws n,xs.length=n:=λxs hx=>by
 unfold kX rz at hx;obtain ⟨ys,_,rfl⟩:=ay.mp hx;rw[ak,cZ]
theorem Ko (hw:∀xs∈rows,xs.length=n) (lw:ws.length=rows.length) (lg:g.length=n) (RR:eZ (eI (kX rows ws n) g) (n+1) R ps) (hn:n∉ps):G9 rows ws n g (j5 R ps n):=by
 have lx:(j5 R ps n).length=n:=jM;refine Au hw lg lx λa ha=>?_
 obtain ⟨row,er,_,ed⟩:=Dy hw lw lx ha;rw[<- ed];exact (Kn (by rw[oA,lg]) qr RR hn er).symm
theorem BJ {a w:Rat} (h:0 < w):0<=a*a / w:=by
 have h1:0<=a*a:=by
  rcases Rat.le_total (a:=0) (b:=a) with z | z
  ·exact J7 z z
  ·have:0<=-a:=by grind
   have:=J7 this this;grind
 rw[eU];exact J7 h1 (Rat.le_of_lt (Rat.inv_pos.mpr h))
theorem CQ (hp:∀w∈ws,0 < w) (hk:k < ws.length):0 < ws.getD k 0:=by
 rw[aa,af hk];exact hp _ (aK _)
theorem Il (hw:∀xs∈rows,xs.length=n) (lw:ws.length=rows.length) (hp:∀w∈ws,0 < w) (lg:g.length=n) (hz:∀pr:List Rat,pr.length=n->(∀xs∈rows,bI xs pr=0)->bI pr g=0) (RR:eZ (eI (kX rows ws n) g) (n+1) R ps):n∉ps:=λhn=>by
 obtain ⟨w,h1,h2⟩:=Fv (by rw[oA,lg]) qr RR hn;rw[oA] at h1 h2;obtain ⟨pr,epr⟩:∃pr:List Rat,pr=(List.range n).map w:=⟨_,rfl⟩;have lp:pr.length=n:=by rw[epr,ak,cm]
 have ap:∀i,i < n->pr.getD i 0=w i:=λi hi=>by rw[epr,aa,aB,cO hi];rfl
 have d1:bI pr g=1:=by
  rw[dD (by rw[lp,lg]),lp,<- h2];exact aZ λi hi=>by rw[ap i hi]
 have f0:gF rows ws pr pr=0:=by
  have e1:∀i,i < n->bH n (λb=>cY (kX rows ws n) i b*pr.getD b 0)=bH rows.length λk=>cY rows k i*(bI (rows.getD k []) pr / ws.getD k 0):=λi hi=>by
   obtain ⟨row,er,lr,ed⟩:=Dy hw lw lp hi;rw[<- ed,dD (by rw[lr,lp]),lr];refine aZ λb _=>?_
   unfold cY;rw[aa (l:=kX rows ws n),er];rfl
  have e2:bH n (λi=>w i*bH n (λb=>cY (kX rows ws n) i b*pr.getD b 0))=0:=by
   have e:(λi=>w i*bH n (λb=>cY (kX rows ws n) i b*pr.getD b 0))=λi=>bH n λb=>pr.getD b 0*(w i*cY (kX rows ws n) i b):=by
    funext i;rw[<- cQ];exact aZ λb _=>by grind
   rw[e,gX];exact c4 λb hb=>by rw[cQ,h1 b hb,gM]
  have S:G9 rows ws n ((List.range n).map λi=>bH rows.length λk=>cY rows k i*(bI (rows.getD k []) pr / ws.getD k 0)) pr:=Au hw (by rw[ak,cm]) lp λa ha=>by
   rw[aa,aB,cO ha];rfl
  rw[<- S.2.2 pr lp,dD (by rw[lp,S.2.1]),lp];refine Eq.trans (aZ λi hi=>?_) e2;rw[e1 i hi,ap i hi];congr 1;rw[aa,aB,cO hi];rfl
 have z:=CW rows.length (λk hk=>BJ (CQ hp (by lia))) f0
 have zz:∀xs∈rows,bI xs pr=0:=λxs hx=>by
  obtain ⟨k,hk,e⟩:=bM hx;have:=z k hk;have wp:=CQ hp (k:=k) (by lia);rw[aa,af hk,Fb,e,eU] at this
  have wi:(ws.getD k 0)⁻¹≠0:=λq=>by
   have:=Rat.inv_pos.mpr wp;grind
  rcases mM.mp this with q | q
  ·rcases mM.mp q with q | q <;> exact q
  ·exact absurd q wi
 rw[hz pr lp zz] at d1;exact absurd d1 (by decide)
theorem zH (h1:G9 rows ws n g1 x1) (h2:G9 rows ws n g2 x2) (h:G9 rows ws n g x) (hg:∀y:List Rat,y.length=n->bI y g=bI y g1+c*bI y g2):bI x g=bI x1 g1+(c*bI x1 g2+c*bI x1 g2)+c*c*bI x2 g2:=by
 have a1:=hg x h.1;have a2:=hg x1 h1.1;have a3:=hg x2 h2.1;have b1:=h1.2.2 x h.1;have b2:=h2.2.2 x h.1;have b3:=h.2.2 x1 h1.1;have b4:=h.2.2 x2 h2.1;have b5:=h1.2.2 x2 h2.1;have b6:=h2.2.2 x1 h1.1;rw[Jj] at b1 b2 b5;grind
theorem EU (lw:ws.length=rows.length) (hp:∀w∈ws,0 < w) (lm:wm.length=more.length) (hm:∀w∈wm,0 < w) (h:G9 rows ws n g x) (h':G9 (rows++more) (ws++wm) n g x') (hw:∀xs∈rows,xs.length=n):bI x' g<=bI x g:=by
 have a1:=h.2.2 x h.1;have a2:=h.2.2 x' h'.1;have a3:=h'.2.2 x' h'.1
 have e1:gF (rows++more) (ws++wm) x' x'=gF rows ws x' x'+gF more wm x' x':=by
  unfold gF;rw[ax,rD];congr 1
  ·refine aZ λk hk=>?_
   rw[aa (l:=rows++more),cz hk,aa (l:=ws++wm),cz (by lia),<- aa,<- aa]
  ·refine aZ λk hk=>?_
   rw[aa (l:=rows++more),bV (by lia),aa (l:=ws++wm),bV (by lia),lw,MG,<- aa,<- aa]
 have p1:0<=gF more wm x' x':=uQ _ λk hk=>BJ (CQ hm (by lia))
 have p2:0<=gF rows ws x x+gF rows ws x' x' - (gF rows ws x' x+gF rows ws x' x):=by
  have e2:gF rows ws x x+gF rows ws x' x' - (gF rows ws x' x+gF rows ws x' x)=bH rows.length λk=>(bI (rows.getD k []) x - bI (rows.getD k []) x')*(bI (rows.getD k []) x - bI (rows.getD k []) x') / ws.getD k 0:=by
   have e3:(λk=>(bI (rows.getD k []) x - bI (rows.getD k []) x')*(bI (rows.getD k []) x - bI (rows.getD k []) x') / ws.getD k 0)=λk=>(bI (rows.getD k []) x*bI (rows.getD k []) x / ws.getD k 0+bI (rows.getD k []) x'*bI (rows.getD k []) x' / ws.getD k 0)+-1*(bI (rows.getD k []) x'*bI (rows.getD k []) x / ws.getD k 0+bI (rows.getD k []) x'*bI (rows.getD k []) x / ws.getD k 0):=by
    funext k;rw[eU,eU,eU,eU];grind
   rw[e3,jm,jm,cQ,jm];unfold gF;grind
  rw[e2];exact uQ _ λk hk=>BJ (CQ hp (by lia))
 grind
end
section
variable {K0:LR9} {n D wl:Nat}
theorem Ih (hK:∀xs∈K0,xs.length=n) (n15:n<=15) (D0:0 < D) (tk:∀xs∈K0,∀x∈xs,Tp D (2^wl) x) (F:∃w,GV (cJ K0 n) K0.length w):∃q:Nat,0 < q/\q<=2^((wl+4)*n)/\∀(E W1:Nat) (L:List Rat) (R:LR9) (ps:List Nat),0 < E->L.length=n->(∀x∈L,Tp E W1 x)->eZ (eI (cJ K0 n) L) (K0.length+1) R ps->K0.length∉ps->∀y∈j5 R ps K0.length,Tp (E*q) (D*(n*(W1*2^((wl+4)*n - wl)))) y:=by
 have lt:(cJ K0 n).length=n:=cZ;have wt:∀xs∈cJ K0 n,xs.length=K0.length:=iQ
 have tfn:∀i,i < n->∀j,cY (cJ K0 n) i j=cY K0 j i:=λi hi j=>by
  unfold cY;rw[aa (l:=cJ K0 n),pV hi];show (K0.map λxs=>xs.getD i 0).getD j 0=_
  rw[aa,aB,aa (l:=K0)];cases K0[j]? with
  | none=>show (0:Rat)=([]:List Rat).getD i 0;rw[aa];rfl
  | some xs=>rfl
 have tkf:∀j i,Tp D (2^wl) (cY K0 j i):=λj i=>by
  unfold cY;rw[aa (l:=K0)];by_cases hj:j < K0.length
  ·rw[af hj];exact jb (tk _ (aK hj)) i
  ·rw[aW (by lia)];show Tp D (2^wl) (([]:List Rat).getD i 0)
   exact jb (by intro x z;cases z) i
 have w0:1<=2^wl:=cn;obtain ⟨w,F⟩:=F;obtain ⟨R0,ps,_,_,SR⟩:=Es wt F;have RR0:=SR.rr
 obtain ⟨pm,pinj,plt,kn,dne⟩:=EX wt w0 D0 (Jl λi hi c=>by
  rw[tfn i (by lia)];exact tkf c i) RR0
 rw[lt] at plt kn;have pl:∀j,j < ps.length->ps.getD j 0 < K0.length:=λj hj=>RR0.2.2.low j hj
 have Dne:(D:Rat)≠0:=λz=>by
  have:((D:Int):Rat)=0:=by rw[a7];exact z
  have:=qP this
  lia
 have rlt:∀r∈mF pm ps.length,r < n:=λr hr=>by
  obtain ⟨t,ht,rfl⟩:=kF hr;exact plt t ht
 obtain ⟨v,ev⟩:∃v:Nat->fY,v=λj i=>(D:Rat)*cY K0 (ps.getD j 0) i:=⟨_,rfl⟩
 have vint:∀j r,Fr 1 (2^wl) (v j r):=λj r=>by
  obtain ⟨z,ee,b⟩:=tkf (ps.getD j 0) r;rw[ev];show Fr 1 (2^wl) ((D:Rat)*_)
  rw[eO,ee];exact Fr.int b
 have den:iP (mF pm ps.length) (ie v ps.length)≠0:=by
  have e1:iP (mF pm ps.length) ([]++ie v ps.length)=iP (mF pm ps.length) ([]++ie (λj i=>(D:Rat)*cY (cJ K0 n) i (ps.getD j 0)) ps.length):=Cy [] λj hj r hr=>by
   rw[tfn r (rlt r hr),ev]
  have e2:ie (λj i=>(D:Rat)*cY (cJ K0 n) i (ps.getD j 0)) ps.length=(ie (λj i=>cY (cJ K0 n) i (ps.getD j 0)) ps.length).map λv i=>(λ_=>(D:Rat)) i*v i:=(cw_map (τ:=λv i=>(D:Rat)*v i)).symm
  have e1:iP (mF pm ps.length) (ie v ps.length)=iP (mF pm ps.length) (ie (λj i=>(D:Rat)*cY (cJ K0 n) i (ps.getD j 0)) ps.length):=e1;rw[e1,e2,wH];intro z;rcases mM.mp z with z | z
  ·exact Dk (g:=λ_=>(D:Rat)) (λ_ _=>Dne) z
  ·exact dne z
 have p16:(16*2^wl:Nat)=2^(wl+4):=by rw[aE];lia
 obtain ⟨q,eq,bq⟩:=Lh (N:=16) (Wx:=2^wl) (rs:=mF pm ps.length) (vs:=ie v ps.length) (by rw[cw_len];lia) λw hw r _=>by
  obtain ⟨t,_,rfl⟩:=cw_in hw;exact vint t r
 rw[pF,p16,<- GX] at bq;have up:(wl+4)*ps.length<=(wl+4)*n:=aM _ kn;have q0:q≠0:=λz=>den (by rw[eq,z];rfl)
 refine ⟨q.natAbs,by lia,ai bq (au (by decide) up),λE W1 L R ps' E0 hL tl RR hn y hy=>?_⟩;have hd:L.length=(cJ K0 n).length:=by rw[lt];exact hL
 obtain ⟨_,rfl⟩:=(GI hd wt RR hn).same RR0;have tlf:∀i,Tp E W1 (L.getD i 0):=λi=>jb tl i
 have Ene:(E:Rat)≠0:=λz=>by
  have:((E:Int):Rat)=0:=by rw[a7];exact z
  have:=qP this
  lia
 rcases Ig RR hy with rfl | ⟨i,hi,rfl⟩
 ·exact ⟨0,by rw[D6];rfl,bJ _⟩
 ·have hW:∀r∈mF pm ps'.length,(E:Rat)*L.getD r 0=bH ps'.length λj=>((E:Rat)*cY R j K0.length / D)*v j r:=λr hr=>by
   have hr:=rlt r hr;rw[LW hd wt RR hn (i:=r) (by rw[lt];exact hr),<- cQ];refine aZ λj hj=>?_
   rw[tfn r hr,ev]
   dsimp only
   grind
  have cr:=yk (v:=v) (c:=λj=>(E:Rat)*cY R j K0.length / D) (W:=λr=>(E:Rat)*L.getD r 0) hi hW
  have ex:iP (mF pm ps'.length) (zO v i ps'.length++(λr=>(E:Rat)*L.getD r 0) :: ie v i)=bH ps'.length λt=>((E:Rat)*L.getD (pm t) 0)*iP (mF pm ps'.length) (zO v i ps'.length++(λr=>if r=pm t then 1 else 0) :: ie v i):=wF (W:=λ_=>0) (v:=λt r=>if r=pm t then 1 else 0) (c:=λt=>(E:Rat)*L.getD (pm t) 0) _ _ (λr hr=>by
   obtain ⟨t,ht,rfl⟩:=kF hr;rw[ig ht λj hj ne=>by rw[if_neg λz=>ne (pinj j t hj ht z.symm),gM],if_pos rfl,Rat.mul_one])
  have hlen:∀x:fY,(zO v i ps'.length++x :: ie v i).length<=16:=λx=>by
   have:=congrArg List.length (cw_split (v:=v) hi);rw[ax,bF,cw_len] at this;rw[ax,bF]
   lia
  have unit:∀t,Fr 1 (2^((wl+4)*n - wl)) (iP (mF pm ps'.length) (zO v i ps'.length++(λr=>if r=pm t then 1 else 0) :: ie v i)):=λt=>by
   have mk:∀(u:fY) (W:Nat),1<=W->W=2^wl->(∀r,Fr 1 W (u r))->Fr 1 (2^((wl+4)*ps'.length)) (iP (mF pm ps'.length) (zO v i ps'.length++u :: ie v i)):=λu W _ eW hu=>by
    subst eW
    have f2:=wI (W:=2^wl) (N:=16) (rs:=mF pm ps'.length) (hlen u) λw hw r _=>by
     rcases az.mp hw with hw | hw
     ·obtain ⟨s,_,rfl⟩:=DQ hw;exact vint s r
     ·rcases aA.mp hw with rfl | hw
      ·exact hu r
      ·obtain ⟨s,_,rfl⟩:=cw_in hw;exact vint s r
    rw[pF,p16,<- GX] at f2;exact f2
   have big:=mk (λr=>((2^wl:Nat):Rat)*(if r=pm t then 1 else 0)) _ w0 rfl λr=>by
    split
    ·rw[Rat.mul_one,<- a7];exact Fr.int (by rw[cF];exact av _)
    ·rw[gM];exact Fr.zero
   have sm:=mk (λr=>if r=pm t then 1 else 0) _ w0 rfl λr=>by
    split
    ·exact Fr.one w0
    ·exact Fr.zero
   have lin:iP (mF pm ps'.length) (zO v i ps'.length++(λr=>((2^wl:Nat):Rat)*(if r=pm t then 1 else 0)) :: ie v i)=0+((2^wl:Nat):Rat)*iP (mF pm ps'.length) (zO v i ps'.length++(λr=>if r=pm t then 1 else 0) :: ie v i):=wF (W:=λ_=>0) (v:=λ_ r=>if r=pm t then 1 else 0) (c:=λ_=>((2^wl:Nat):Rat)) (zO v i ps'.length) (ie v i) (k:=1) λr _=>by
    show _=0+_
    rw[Rat.zero_add]
   rw[Rat.zero_add] at lin;obtain ⟨z,ez⟩:=uX sm;rw[ez] at lin ⊢;rw[lin,<- a7,<- aR] at big;have b1:=sW big;rw[di,cF] at b1;refine Fr.int ?_;have g0:wl<=(wl+4)*ps'.length:=ai (by lia) (cT _ (show 0 < ps'.length by lia));have e1:2^((wl+4)*ps'.length)=2^wl*2^((wl+4)*ps'.length - wl):=by rw[<- aE];congr 1;lia
   rw[e1] at b1;exact ai (Nat.le_of_mul_le_mul_left b1 w0) (au (by decide) (by lia))
  have nf:Fr 1 (n*(W1*2^((wl+4)*n - wl))) (iP (mF pm ps'.length) (zO v i ps'.length++(λr=>(E:Rat)*L.getD r 0) :: ie v i)):=by
   rw[ex];refine (Gk (V:=W1*2^((wl+4)*n - wl)) λt ht=>?_).mono (aG _ kn);obtain ⟨z,ee,b⟩:=tlf (pm t)
   have f1:Fr 1 W1 ((E:Rat)*L.getD (pm t) 0):=by
    rw[eO,ee];exact Fr.int b
   have:=f1.mul (unit t);rwa [mK] at this
  obtain ⟨z,ez⟩:=uX nf;rw[ez] at nf cr;have bz:=sW nf;rw[eq] at cr
  have key:cY R i K0.length*((E:Rat)*(q:Rat))=(D:Rat)*(z:Rat):=by
   rw[cr];grind
  have kq:(((E*q.natAbs:Nat):Rat))=(E:Rat)*((q.natAbs:Nat):Rat):=jJ ..;rcases Int.natAbs_eq q with h | h
  ·have hq:((q.natAbs:Nat):Rat)=(q:Rat):=by rw[<- a7,<- h]
   refine ⟨D*z,?_,by rw[di,cF];exact aM _ bz⟩;rw[kq,hq,key,aR,a7]
  ·have hq:((q.natAbs:Nat):Rat)=-(q:Rat):=by rw[<- a7,<- ib];congr 1;lia
   refine ⟨-(D*z),?_,by rw[yM,di,cF];exact aM _ bz⟩;rw[kq,hq,ib,aR,a7,<- key];grind
end
def Nr (K:FG9) (a:Addr) (n:Nat):It :=
 ⟨λi H=>i < n/\∃xs x,bL K H a xs/\xs[n - 1 - i]?=some x,λi H x H'=>H'=H/\∀xs,bL K H a xs->xs[n - 1 - i]?=some x,λi _=>n<=i⟩
theorem Fl {P:Program} {w:World} {K:FG9} {tg:Expr} (a it:Addr) (n:Nat):Turn P w K tg (Nr K a n) [it] it (λi h=>i<=n/\h.IsRevIter it a ((n:Int) - 1 - (i:Nat))) where
 mem:=by simp
 obj:=λi h st b hb=>by
  have e:b=it:=by simpa using hb
  subst e;obtain ⟨_,o,e,c,d⟩:=st;exact ⟨o,e,λv z=>by rw[d] at z;cases z⟩
 keep:=λi h h' st k=>⟨st.1,st.2.at λo e=>k it (by simp) o e⟩
 item:=by
  intro X hP hw hK hc i pins s σ H E I hf st hg;subst hP hw hK;obtain ⟨hi,xs,x,hq,hx⟩:=hg;obtain ⟨its,rv,p,hz⟩:=I.list hq;obtain ⟨u,hu,ru⟩:=rv.get hx;obtain ⟨f0,f1,f2,f3,f4,f5⟩:=hf it (by simp);have st2:=st.2;rw[show (n:Int) - 1 - (i:Nat)=((n - 1 - i:Nat):Int) by lia] at st2;refine wpAny_pyNext_rev_item st2 p.isList (x:=u) (by simpa using hu) λh' st' sb=>?_
  have I1:Inv X pins σ H { s with heap:=h' }:=I.turned (t':=s.toks) (λb o hb e=>(sb.2 b hb).trans e) f0 f1 f3 f4 f5;rw[show ((n - 1 - i:Nat):Int) - 1=(n:Int) - 1 - ((i+1:Nat):Int) by lia] at st';obtain ⟨o,e,c,d⟩:=id st';exact ⟨u,rfl,Gf (s:={ s with heap:=h' }) e c d (by decide) ⟨x,H,I1,ru,⟨rfl,λys hy=>by rw[I.list_inj hy hq];exact hx⟩,⟨hi,st'⟩,λb hb=>(hf b hb).1⟩⟩
 done:=by
  intro X hP hw hK hc i pins s σ H E I hf st hg;subst hP hw hK;obtain ⟨f0,f1,f2,f3,f4,f5⟩:=hf it (by simp);have st2:=st.2;have:n<=i:=hg;have:=st.1;rw[show (n:Int) - 1 - (i:Nat)=-1 by lia] at st2;exact wpAny_pyNext_rev_end (I.ok.hd hc) st2 λh' eb=>⟨rfl,I.turned (t':=s.toks) (λb o hb e=>eb b o hb e) f0 f1 f3 f4 f5⟩
 self:=λ_ _ _ _ _ st h=>wpAny_pyIter_revIter st.2 h
def Mp (K:FG9) (ta:TA):TI:=λσ H R=>ta σ H λvs H1=>∃l xs,vs=[.ref l]/\bL K H1 l xs/\R (Nr K l xs.length) H1
theorem KS {X:Cx} {e1:Expr} {ta:TA} {p pos:Pos} {tg:Expr} (hg:Gl X "reversed") (hm:X.mg "reversed"=none) (ha:PA X [e1] ta) (hs:starEach [e1] X.env=[(false,eval e1 X.env)]:=by rfl) :
  PI X tg (.Call (.Name "reversed" p) [e1] [] pos) (Mp X.K ta):=by
 intro pins s σ H R I h;refine Call_ (jv I hg hm boot_reversed (PyProof.Rows.callWith_type1 (fB (ha pos pins s σ H _ I h) λus s1 ⟨vs,H1,I1,r1,q1⟩=>?_) hs rfl));obtain ⟨l,xs,e,qx,q⟩:=q1;subst e;obtain ⟨u,rfl,ru⟩:=vals1 r1;cases ru;obtain ⟨us,rx,px,_⟩:=I1.list qx;have lx:=rx.length;have kp:∀b o,s1.heap.get? b=some o->(s1.heap.push (revObj l ((us.toArray.size:Int) - 1))).get? b=some o:=λb o e=>Heap.get?_push_of_some _ e
 have st:(s1.heap.push (revObj l ((us.toArray.size:Int) - 1))).IsRevIter s1.heap.objs.size l ((us.toArray.size:Int) - 1):=⟨_,Heap.get?_push_size _ rfl,rfl,rfl⟩;refine call_reversed_list px.isList (wpAny_pyIter_revIter st ?_);have I2:Inv X pins σ H1 { s1 with heap:=s1.heap.push (revObj l ((us.toArray.size:Int) - 1)) }:=I1.kept (t':=s1.toks) kp;refine ⟨_,[s1.heap.objs.size],_,_,H1,rfl,I2,Fl l s1.heap.objs.size xs.length,⟨bJ _,?_⟩,λb hb=>?_,q⟩
 ·have e:((us.toArray.size:Int) - 1)=(xs.length:Int) - 1 - ((0:Nat):Int):=by rw[aT];lia
  rw[<- e];exact st
 ·have hb':b=s1.heap.objs.size:=by simpa using hb
  subst hb';exact I1.fpOk (av _) (I1.hok.fresh (av _))
def Bu (xs:List Rat):Prop:=∃M,Bn M (xs.map nm)
theorem vL (h0:0 < M) (h1:M<=2^4300) (h2:W<=2^4300) (h:∀x∈xs,Tp M W x):Bu xs:=by
 refine ⟨M,by lia,?_,λy hy=>?_⟩
 ·show ((M:Nat):Int).natAbs < 2^4400
  rw[cF];exact be h1 (cU (by decide) (by decide))
 ·obtain ⟨x,hx',rfl⟩:=ay.mp hy;have t:=h x hx';refine ⟨gA x,o7 t,?_⟩;obtain ⟨s,e,b⟩:=vg t h0 (gA x) (Ed _) (o7 t);have e2:(((nm x).1:Int):Rat)=(s:Rat):=by rw[<- e];exact iC x
  rw[dj.mp e2];exact be (ai b h2) (cU (by decide) (by decide))
inductive C7 (K:FG9) (vs:List V) (H:Hp) (Q:VK) (E9:XK):Prop
 | mk (p q:Addr) (xs ys:List Rat):vs=[.ref p,.ref q]->cx K H p xs->cx K H q ys->ys.length=xs.length->xs.length<=1000->Bu xs/\Bu ys->(∀r H',aH H H'->bQ K H' (bI xs ys) (.ref r)->Q (.ref r) H')->C7 K vs H Q E9
inductive C4 (K:FG9) (vs:List V) (H:Hp) (Q:VK) (E9:XK):Prop
 | mk (p q:Addr) (H0:Hp) (rows:LR9) (ys:List Rat):vs=[.ref p,.ref q]->bR K H0 H p rows->cx K H q ys->rows.length<=1000->ys.length<=1000->((∀xs∈rows,xs.length=ys.length/\(Bu xs/\Bu ys)))->(∀r H',H r=none->aH H H'->cx K H' r (rows.map λxs=>bI xs ys)->Q (.ref r) H')->C4 K vs H Q E9
inductive vv (K:FG9) (vs:List V) (H:Hp) (Q:VK) (E9:XK):Prop
 | mk (p q:Addr) (w:Nat) (H0 H1:Hp) (one other:LR9):vs=[.ref p,.ref q,.int w]->bR K H0 H p one->bR K H1 H q other->one.length<=1000->other.length<=1000->w<=1000->((∀xs∈one,xs.length=other.length/\∀ys∈cJ other w,Bu ys/\Bu xs))->(∀xs∈other,xs.length=w)->(∀r H',H r=none->aH H H'->bR K H H' r (rz one other w)->Q (.ref r) H')->vv K vs H Q E9
def Ie:Sp:=λ_ _ _ _=>False
theorem GK {K:FG9} {g:TG} (Pv:Nat->List V->Hp->Prop) (hz:xs.length<=sizeLine) (h0:Pv 0 [] H) (hl:∀i ys H,i<=xs.length->Pv i ys H->bL K H a xs)
  (hs:∀i x ys H,i < xs.length->xs[xs.length - 1 - i]?=some x->ys.length<=i->Pv i ys H->mS σ₀ g tf te x H (λy H'=>Pv (i+1) (ys++[y]) H') (λH'=>Pv (i+1) ys H'))
  (hd:∀ys H,ys.length<=xs.length->Pv xs.length ys H->∀p,H p=none->Q (.ref p) (upd H p (.lst ys))):oj (Nr K a xs.length) σ₀ g tf te Q H:=by
 refine ⟨λi m ys H=>m=xs.length - i/\i<=xs.length/\ys.length<=i/\Pv i ys H,⟨xs.length,by simp,bJ _,bJ _,h0⟩,?_⟩;rintro i m ys H ⟨rfl,hi,hy,p⟩;have q1:=hl i ys H hi p;by_cases hlt:i < xs.length
 ·refine .inr ⟨⟨hlt,xs,xs[xs.length - 1 - i]'(by lia),q1,af _⟩,by lia,λy H'=>Pv (i+1) (ys++[y]) H',λH'=>Pv (i+1) ys H',λy H' p'=>⟨xs.length - (i+1),by lia,rfl,hlt,by rw[ax,de];lia,p'⟩,λH' p'=>⟨xs.length - (i+1),by lia,rfl,hlt,by lia,p'⟩,λx H' y=>?_⟩;obtain ⟨rfl,e1⟩:=y;exact hs i x ys _ hlt (e1 xs q1) hy p
 ·have e:i=xs.length:=by lia
  subst e;exact .inl ⟨av _,by lia,hd ys H hy p⟩
theorem Jd (hy:0 < y):0 < (nm x).2*(nm y).1/\(lo ((nm x).1*(nm y).2) ((nm x).2*(nm y).1),hi ((nm x).1*(nm y).2) ((nm x).2*(nm y).1))=nm (x / y):=by
 have yn:0 < (nm y).1:=mN.mp hy;have hb:0 < (nm x).2*(nm y).1:=gI (gA x) yn
 have e1:(((nm x).1:Int):Rat)=x*(((nm x).2:Int):Rat):=by
  show (x.num:Rat)=x*(((x.den:Nat):Int):Rat)
  rw[iC,a7]
 have e2:(((nm y).1:Int):Rat)=y*(((nm y).2:Int):Rat):=by
  show (y.num:Rat)=y*(((y.den:Nat):Int):Rat)
  rw[iC,a7]
 have y0:y≠0:=λz=>by rw[z] at hy;exact absurd hy (by decide)
 have e3:x / y*y=x:=o5 y0;refine ⟨hb,oz hb ?_⟩;rw[aR,aR,e1,e2];grind
inductive vo (K:FG9) (vs:List V) (H:Hp) (Q:VK) (E9:XK):Prop
 | mk (u v:V) (x y:Rat):vs=[u,v]->bQ K H x u->bQ K H y v->0 < y->gL x->gL y->(∀r H',aH H H'->bQ K H' (x / y) (.ref r)->Q (.ref r) H')->vo K vs H Q E9
inductive C1 (K:FG9) (vs:List V) (H:Hp) (Q:VK) (E9:XK):Prop
 | mk (p q:Addr) (ws xs:List Rat):vs=[.ref p,.ref q]->cx K H p ws->cx K H q xs->ws.length=xs.length->xs.length<=1000->(∀w∈ws,0 < w/\gL w)->(∀x∈xs,gL x)->(∀r H',H r=none->aH H H'->cx K H' r (uS ws xs)->Q (.ref r) H')->C1 K vs H Q E9
inductive Aq (vs:List V) (H:Hp) (Q:VK) (E9:XK):Prop
 | mk (p:Addr) (us:List V) (zss:List (List V)):vs=[.ref p]->H p=some (.lst us)->Paired (λzs u=>∃q,u=V.ref q/\H q=some (.lst zs)) zss us->zss.flatten.length<=1000->(∀r H',H r=none->aH H H'->H' r=some (.lst zss.flatten)->Q (.ref r) H')->Aq vs H Q E9
def MZ (mv pt:LR9) (ws:List Rat) (T:Nat) (x:List Rat):LR9:=(Bt mv pt T).reverse.map λrows=>uS ws (rows.map λr=>bI r x)
inductive Ai (K:FG9) (vs:List V) (H:Hp) (Q:VK) (E9:XK):Prop
 | mk (p q l:Addr) (us:List V) (Rs:List (LR9)) (ws x:List Rat):vs=[.ref p,.ref q,.ref l]->cx K H p x->cx K H q ws->H l=some (.lst us)->Paired (By K l H) Rs us->Rs.length<=1000->ws.length<=1000->x.length<=1000->Bu x->(∀w∈ws,0 < w/\gL w)->(∀R∈Rs,R.length=ws.length/\∀xs∈R,xs.length=x.length/\Bu xs/\gL (bI xs x))->(∀r H',H r=none->aH H H'->bR K H H' r (Rs.reverse.map λrows=>uS ws (rows.map λr=>bI r x))->Q (.ref r) H')->Ai K vs H Q E9
inductive C2 (K:FG9) (vs:List V) (H:Hp) (Q:VK) (E9:XK):Prop
 | mk (q l:Addr) (n:Nat) (us:List V) (Rs:List (LR9)) (ws:List Rat):vs=[.ref q,.ref l,.int n]->cx K H q ws->H l=some (.lst us)->Paired (By K l H) Rs us->n<=100->Rs.length<=100->Rs.flatten.length<=1000->(ve ws Rs.length).length=Rs.flatten.length->(∀xs∈Rs.flatten,xs.length=n/\∀x∈xs,gL x)->(∀w∈ws,0 < w/\gL w)->(∀ys∈cJ Rs.flatten n,Bu ys/\Bu (uS (ve ws Rs.length) ys))->(∀r H0 H',H r=none->aH H H'->bR K H0 H' r (kX Rs.flatten (ve ws Rs.length) n)->Q (.ref r) H')->C2 K vs H Q E9
inductive As (K:FG9) (C:Addr) (vs:List V) (H:Hp) (Q:VK) (E9:XK):Prop
 | mk (x:Addr) (u:Nat) (H0:Hp) (mv pt lk:LR9):vs=[.ref x,.int u]->u<=99->jZ K H0 H C x mv pt lk->gD mv pt lk->MP mv pt u->(∀r us H',H r=none->aH H H'->H' r=some (.lst us)->Paired (By K r H') (Bt mv pt u) us->Q (.ref r) H')->As K C vs H Q E9
inductive xR (K:FG9) (vs:List V) (H:Hp) (Q:VK) (E9:XK):Prop
 | mk (p q:Addr) (n w:Nat) (H0:Hp) (rows:LR9) (due:List Rat):vs=[.ref p,.int n,.ref q]->bR K H0 H p rows->cx K H q due->due.length=rows.length->rows.length<=90->n<=90->(∀xs∈rows,xs.length=n)->GV (eI rows due) (n+1) w->(∀R ps,eZ (eI rows due) (n+1) R ps->n∉ps)->(∀t x R ps H',eZ (eI rows due) (n+1) R ps->H' t=some (.tup [.str (Str.ofString "yes"),.ref x])->H x=none->aH H H'->cx K H' x (j5 R ps n)->Q (.ref t) H')->xR K vs H Q E9
structure Nq (mv pt:LR9) (ws:List Rat) (T:Nat) (due:List Rat) (N X:Nat):Prop where
 lw:ws.length=pt.length
 wp:∀w∈ws,0 < w/\gL w
 ad:MP mv pt T
 t40:T<=20
 rk:∀xs∈kry mv pt T,Bu xs/\∀x∈xs,gL x
 rc:∀ys∈cJ (kry mv pt T) mv.length,Bu ys/\Bu (uS (ve ws T) ys)
 sw:∃w,GV (eI (kX (kry mv pt T) (ve ws T) mv.length) due) (mv.length+1) w
 ok:∀R ps,eZ (eI (kX (kry mv pt T) (ve ws T) mv.length) due) (mv.length+1) R ps->mv.length∉ps/\∀y∈j5 R ps mv.length,Tp N X y
 n0:0 < N
 nb:N<=2^3900
 xb:X<=2^3900
 rd:Bu due
 pz:∀xs∈kry mv pt T,∀x:List Rat,x.length=mv.length->(∀y∈x,Tp N X y)->gL (bI xs x)
inductive xW (K:FG9) (C:Addr) (vs:List V) (H:Hp) (Q:VK) (E9:XK):Prop
 | mk (x q s g:Addr) (T N X:Nat) (H0:Hp) (mv pt lk:LR9) (ws st go:List Rat):vs=[.ref x,.ref q,.ref s,.ref g,.int T]->jZ K H0 H C x mv pt lk->gD mv pt lk->E7 mv pt lk->cx K H q ws->cx K H s st->st.length=mv.length->cx K H g go->go.length=mv.length->Br mv pt st (List.replicate T (List.replicate pt.length 0))->(∀x∈go,gL x)->Nq mv pt ws T (kY mv T st go) N X->(∀t e p y pr H',H' t=some (.tup [.str (Str.ofString "puts"),.ref e,.ref p,.ref y])->H p=none->H y=none->aH H H'->bQ K H' (bI pr (kY mv T st go)) (.ref e)->bR K H H' p (MZ mv pt ws T pr)->cx K H' y pr->G9 (kry mv pt T) (ve ws T) mv.length (kY mv T st go) pr->(∀z∈pr,Tp N X z)->Q (.ref t) H')->xW K C vs H Q E9
theorem yQ (ws:List Rat) (T:Nat):(ve ws T).length=T*ws.length:=by
 unfold ve
 induction T with
 | zero=>simp
 | succ T ih=>rw[eJ,eo,ax,ih,fG];lia
theorem yP (h:w∈ve ws T):w∈ws:=by
 unfold ve at h;obtain ⟨l,hl,hw⟩:=dQ.mp h;rw[rj hl] at hw;exact hw
theorem AV {K:FG9} {l:Addr} {H:Hp}:∀{Rs:List (LR9)} {us:List V},Paired (By K l H) Rs us->∃zss:List (List V),Paired (λzs u=>∃q,u=V.ref q/\H q=some (.lst zs)) zss us/\Paired (λR zs=>Paired (dA K (zx l) H) R zs) Rs zss
 | _,_,.nil=>⟨[],.nil,.nil⟩
 | _,_,.cons h t=>by
  obtain ⟨zss,a,b⟩:=AV t;obtain ⟨q,e,_,zs,g,r,_⟩:=h;exact ⟨zs :: zss,.cons ⟨q,e,g⟩ a,.cons r b⟩
theorem vO {α β:Type} {F:α->V->Prop} {G:β->V->Prop} {b:β} (h:∀a y,F a y->G b y):∀{as:List α} {ys:List V},Paired F as ys->Paired G (List.replicate as.length b) ys
 | _,_,.nil=>.nil
 | _,_,.cons x t=>.cons (h _ _ x) (vO h t)
theorem De {α β:Type} {G:α->β->Prop} {a:α} {b:β} (h:G a b):∀n:Nat,Paired G (List.replicate n a) (List.replicate n b)
 | 0=>.nil
 | n+1=>.cons h (De h n)
theorem lX {α β:Type} {F:α->β->Prop}:∀{Rs:List (List α)} {zss:List (List β)},Paired (λR zs=>Paired F R zs) Rs zss->Paired F Rs.flatten zss.flatten
 | _,_,.nil=>.nil
 | _,_,.cons h t=>b9 h (lX t)
theorem vf {C:Rat->Prop} (h:∀xs∈rows,xs.length=n/\∀x∈xs,C x):∀ys∈cJ rows n,∀y∈ys,C y:=λys hy y hy'=>by
 obtain ⟨j,hj,rfl⟩:=ay.mp hy;obtain ⟨xs,hx,rfl⟩:=ay.mp hy';have:=h xs hx;exact this.2 _ (getD_mem (by rw[this.1];exact J8.mp hj))
theorem K9 (h0:0 < w) (h:Dr W w):Dr W (1 / w):=by
 have wn:0 < w.num:=mN.mp h0;have w0:w≠0:=λz=>by rw[z] at h0;exact absurd h0 (by decide)
 have e:=JO (a:=(w.den:Int)) (b:=w.num) (q:=1 / w) wn (by rw[gQ];exact zy w) (by
  have e1:(w.num:Rat)=w*((w.den:Nat):Rat):=iC w;have e2:1 / w*w=1:=o5 w0;rw[a7,e1,<- Rat.mul_assoc,e2,Rat.one_mul])
 have e1:(w.den:Int)=(1 / w).num:=congrArg Prod.fst e;have e2:w.num=((1 / w).den:Int):=congrArg Prod.snd e;have h1:=h.1;have h2:=h.2;exact ⟨by lia,by lia⟩
def Fd (a1 a2 T:Nat):Nat:=a1*T+a2
def E3 (a1 a2 T:Nat):Nat:=2*Fd a1 a2 T+42
def yN (a1 a2 c T:Nat):Nat:=2*(c*(T+1))+28+E3 a1 a2 T
def BF (a1 a2 T b:Nat):Nat:=a1*T+a2+b+12
def CL (a1 a2 c T b:Nat):Nat:=c*T+26+BF a1 a2 T b
def zQ (n a1 a2 c T:Nat):Nat:=(yN a1 a2 c T+4)*n
def HV (n a1 a2 c T b:Nat):Nat:=E3 a1 a2 T+3+CL a1 a2 c T b+(zQ n a1 a2 c T - yN a1 a2 c T)
abbrev Z65 (n a1 a2 c T b:Nat):Prop:=n<=8/\T<=14/\zQ n a1 a2 c T<=8900/\yN a1 a2 c T<=4200/\yN a1 a2 c T+BF a1 a2 T b+CL a1 a2 c T b+E3 a1 a2 T<=4200/\n*(yN a1 a2 c T+BF a1 a2 T b+CL a1 a2 c T b+E3 a1 a2 T+5)<=8900/\2*BF a1 a2 T b+zQ n a1 a2 c T<=3900/\3+HV n a1 a2 c T b+CL a1 a2 c T b<=3900/\Fd a1 a2 T+BF a1 a2 T b+zQ n a1 a2 c T<=3900/\3+c*(T+1)+Fd a1 a2 T+HV n a1 a2 c T b<=3900/\a1*(T+2)+a2+b+c*(T+3)+22<=3900
def Ho (mv pt:LR9) (u:Nat) (go:List Rat):Prop:=∀pr:List Rat,pr.length=mv.length->(∀xs∈kry mv pt u,bI xs pr=0)->bI pr go=0
section
variable {mv pt lk pus:LR9} {ws go g1 g2:List Rat} {M1 M2 V a1 a2 c T0 n0 b B u T E:Nat}
theorem p2 (h:a<=b):2^a<=2^b:=au (by decide) h
theorem AU:kry mv pt (u+1)=kry mv pt u++pt.map (js mv u):=by
 rw[<- jI,DW,oo,jI];simp
theorem Ho.later (h:Ho mv pt u go):Ho mv pt (u+1) go:=λpr l z=>h pr l λxs hx=>z xs (by rw[AU];exact d5 _ hx)
theorem Dg (D:gD mv pt lk) (lp:pus.length=T) (wp:∀xs∈pus,xs.length=pt.length):Ho mv pt T (oG mv pt (List.replicate mv.length 0) pus T):=λpr l z=>by
 have l0:(List.replicate mv.length (0:Rat)).length=mv.length:=aL ..;have l1:=j6 (mv:=mv) (pt:=pt) (pus:=pus) (k:=T) l0 (by lia);have:=EG D l0 l1 lp wp rfl l z;rwa [F6 D.mw l1] at this
theorem Ho.comb (h1:Ho mv pt u g1) (h2:Ho mv pt u g2) (hg:∀y:List Rat,y.length=mv.length->bI y go=bI y g1+k*bI y g2):Ho mv pt u go:=λpr l z=>by
 rw[hg pr l,h1 pr l z,h2 pr l z];grind
theorem M5 (X:Bd mv pt M1 M2 V a1 a2 c) (D:gD mv pt lk) (hu:u<=T0+1):∀xs∈kry mv pt u,∀x∈xs,Fr (M1^T0*M2) (2^(c*(T0+1))) x:=λxs hx x hx' =>
 Fr.up (X.kry D u xs hx x hx') (Nat.mul_dvd_mul_right (Nat.pow_dvd_pow _ (by lia)) _) (p2 (aM _ hu))
theorem K2 (hw:∀xs∈rows,xs.length=n) (lw:wT.length=rows.length) (h64:rows.length<=64) (hf:∀xs∈rows,∀x∈xs,Fr D1 V1 x) (hi:∀w∈wT,Fr B (2^22) (1 / w)):(∀ys∈cJ rows n,(∀y∈ys,Fr D1 V1 y)/\∀y∈uS wT ys,Fr (D1*B) (V1*2^22) y)/\∀xs∈kX rows wT n,∀x∈xs,Fr (D1*(D1*B)) (64*(V1*(V1*2^22))) x:=by
 have h1:∀ys∈cJ rows n,(∀y∈ys,Fr D1 V1 y)/\∀y∈uS wT ys,Fr (D1*B) (V1*2^22) y:=λys hy=>by
  have t:=vf (C:=Fr D1 V1) (λxs hx=>⟨hw xs hx,hf xs hx⟩) ys hy;refine ⟨t,λy hy'=>?_⟩;unfold uS at hy';obtain ⟨i,h,e⟩:=bM hy';rw[fH] at e;rw[<- e,show ∀a b:Rat,a / b=a*(1 / b) from λa b=>by rw[eU,eU,Rat.one_mul]];exact (t _ (aK _)).mul (hi _ (aK _))
 refine ⟨h1,λxs hx x hx'=>?_⟩;unfold kX rz at hx;obtain ⟨pc,hp,rfl⟩:=ay.mp hx;obtain ⟨ca,ha,rfl⟩:=ay.mp hp;obtain ⟨cb,hb,rfl⟩:=ay.mp hx';exact (Fr.dot (h1 cb hb).1 (h1 ca ha).2).mono (aG _ (by rw[iQ cb hb];exact h64))
theorem F4 (X:Bd mv pt M1 M2 V a1 a2 c) (D:gD mv pt lk) (Z:Z65 n0 a1 a2 c T0 b) (hn:mv.length<=n0) (hu:u<=T0+1) (lw:ws.length=pt.length) (hw:∀w∈ws,0 < w/\Dr 1000 w) (E0:0 < E) (hE:E<=2^BF a1 a2 T0 b):∃q:Nat,0 < q/\q<=2^zQ n0 a1 a2 c T0/\∀go:List Rat,go.length=mv.length->(∀x∈go,Fr E (2^(c*T0+26)) x)->Ho mv pt u go->Nq mv pt ws u go (E*q) (2^HV n0 a1 a2 c T0 b):=by
 obtain ⟨n8,t14,z1,z2,z3,z4,z5,z6,z7,z8,z9⟩:=Z;have i4:=D.i4;have kl:=qA (mv:=mv) (pt:=pt) u;have kl2:u*pt.length<=15*4:=aF (by lia) i4;have wk:=nN (mv:=mv) (pt:=pt) rfl D.pw u;have lwt:(ve ws u).length=(kry mv pt u).length:=by rw[yQ,kl,lw]
 have hk:=M5 X D hu
 obtain ⟨Bw,b0,b1,hB⟩:=yl (c:=10) (l:=ws.map λw=>1 / w) (λx hx=>by
  obtain ⟨w,h,rfl⟩:=ay.mp hx;have:=K9 (hw w h).1 (hw w h).2;exact ⟨ai this.1 (by decide),ai this.2 (by decide)⟩) (by decide)
 have b1:Bw<=2^42:=ai b1 (p2 (by rw[ak,lw];lia));obtain ⟨D1,eD⟩:∃d,M1^T0*M2=d:=⟨_,rfl⟩;rw[eD] at hk;have D10:0 < D1:=by rw[<- eD];exact bN (yJ X.m1) X.m2
 have D1b:D1<=2^Fd a1 a2 T0:=by rw[<- eD];exact nJ X.b1 X.b2
 obtain ⟨Vk,eV⟩:∃v,2^(c*(T0+1))=v:=⟨_,rfl⟩;rw[eV] at hk;have V1:1<=Vk:=by rw[<- eV];exact cn
 obtain ⟨f1,f2⟩:=K2 (n:=mv.length) wk lwt (by lia) hk (λw h=>hB _ (ay.mpr ⟨w,yP h,rfl⟩));obtain ⟨Dl,eL⟩:∃d,D1*(D1*Bw)=d:=⟨_,rfl⟩;rw[eL] at f2;have L0:0 < Dl:=by rw[<- eL];exact bN D10 (bN D10 b0)
 have Lb:Dl<=2^E3 a1 a2 T0:=by
  rw[<- eL,show E3 a1 a2 T0=Fd a1 a2 T0+(Fd a1 a2 T0+42) by unfold E3;lia,aE,aE];exact aF D1b (aF D1b b1)
 have tk:∀xs∈kX (kry mv pt u) (ve ws u) mv.length,∀x∈xs,Tp Dl (2^yN a1 a2 c T0) x:=λxs hx x hx'=>by
  refine Tp.of (f2 xs hx x hx') ?_;rw[<- eV,show yN a1 a2 c T0=6+(c*(T0+1)+(c*(T0+1)+22))+E3 a1 a2 T0 by unfold yN;lia,aE 2 (6+_),aE 2 6,aE 2 (c*(T0+1)),aE 2 (c*(T0+1))];exact aM _ Lb
 have SW:∀m:Nat,m<=mv.length->m*(yN a1 a2 c T0+4)<=8900:=λm hm=>ai (by rw[cH];exact aM _ (ai hm hn)) z1
 obtain ⟨G,eG⟩:∃g,kX (kry mv pt u) (ve ws u) mv.length=g:=⟨_,rfl⟩;have lG:G.length=mv.length:=by rw[<- eG];exact oA
 have wG:∀xs∈G,xs.length=mv.length:=by rw[<- eG];exact qr
 have tt:cJ (cJ G mv.length) mv.length=G:=by
  have:=Ee wG;rwa [lG] at this
 rw[eG] at tk;have lt:(cJ G mv.length).length=mv.length:=cZ;have tkt:∀xs∈cJ G mv.length,∀x∈xs,Tp Dl (2^yN a1 a2 c T0) x:=vf λxs hx=>⟨wG xs hx,tk xs hx⟩
 obtain ⟨q,q0,qb,hq⟩:=Ih (K0:=cJ G mv.length) (n:=mv.length) (D:=Dl) (wl:=yN a1 a2 c T0) (λxs hx=>by rw[iQ xs hx,lG]) (by lia) L0 tkt ⟨yN a1 a2 c T0,Dl,2^yN a1 a2 c T0,L0,ai Lb (p2 (by lia)),cn,av _,by rw[tt];exact tk,by lia,by rw[tt,lG,lt];lia,by rw[tt,lG,lt];exact SW _ (by lia)⟩;rw[tt,lt] at hq;have Qm:(yN a1 a2 c T0+4)*mv.length<=zQ n0 a1 a2 c T0:=aM _ hn;have qb:q<=2^zQ n0 a1 a2 c T0:=ai qb (p2 Qm);refine ⟨q,q0,qb,λgo lg hg hr=>?_⟩;have Nb:E*q<=2^(BF a1 a2 T0 b+zQ n0 a1 a2 c T0):=by rw[aE];exact aF hE qb
 have N0:0 < E*q:=bN E0 q0
 have tg:∀x∈go,Tp E (2^CL a1 a2 c T0 b) x:=λx hx=>Tp.of (hg x hx) (by
  rw[show CL a1 a2 c T0 b=c*T0+26+BF a1 a2 T0 b from rfl,aE 2 (c*T0+26)];exact aM _ hE)
 have up:∀{a b:Nat},a<=b->(2:Nat)^a<=2^b:=p2;have rk:∀xs∈kry mv pt u,∀x∈xs,Tp D1 (2^(c*(T0+1)+Fd a1 a2 T0)) x:=λxs hx x hx'=>Tp.of (hk xs hx x hx') (by rw[<- eV,aE];exact aM _ D1b)
 refine ⟨lw,λw h=>⟨(hw w h).1,?_⟩,⟨M1,M2,V,a1,a2,c,X,?_⟩,by lia,λxs hx=>⟨vL D10 (ai D1b (up (by lia))) (up (by lia)) (rk xs hx),λx hx'=>fg (rk xs hx x hx') D10 (ai D1b (up (by lia))) (up (by lia))⟩,λys hy=>⟨?_,?_⟩,?_,λR ps RR=>?_,N0,ai Nb (up (by lia)),up (by lia),vL E0 (ai hE (up (by lia))) (up (by lia)) tg,λxs hx x lx hx'=>?_⟩
 ·exact fg (Tp.of (Fr.own w (hw w h).2.1) (av _)) w.den_pos (ai (hw w h).2.2 (ai (show 1000<=2^10 by decide) (up (by decide)))) (ai (aF (av _) (hw w h).2.2) (ai (show 1000*1000<=2^20 by decide) (up (by decide))))
 ·have e1:a1*(u+1)<=a1*(T0+2):=aM _ (by lia);have e2:c*(u+2)<=c*(T0+3):=aM _ (by lia)
  lia
 ·exact vL D10 (ai D1b (up (by lia))) (W:=2^(c*(T0+1)+Fd a1 a2 T0)) (up (by lia)) λy hy'=>Tp.of ((f1 ys hy).1 y hy') (by rw[<- eV,aE];exact aM _ D1b)
 ·have e1:D1*Bw<=2^(Fd a1 a2 T0+42):=by rw[aE];exact aF D1b b1
  refine vL (bN D10 b0) (ai e1 (up ?_)) (W:=2^(c*(T0+1)+22+(Fd a1 a2 T0+42))) (up ?_) λy hy'=>Tp.of ((f1 ys hy).2 y hy') ?_
  ·unfold yN E3 at z2;lia
  ·unfold yN E3 at z2;lia
  ·rw[<- eV,aE 2 (_+22),aE 2 (c*(T0+1))];exact aM _ e1
 ·rw[eG];obtain ⟨w,ew⟩:∃w,yN a1 a2 c T0+BF a1 a2 T0 b+CL a1 a2 c T0 b+E3 a1 a2 T0+1=w:=⟨_,rfl⟩;have hj:go.length=G.length:=by rw[lg,lG]
  have c1:2^yN a1 a2 c T0*E<=2^(w - 1):=ai (aM _ hE) (by rw[<- aE];exact up (by lia));have c2:2^CL a1 a2 c T0 b*Dl<=2^(w - 1):=ai (aM _ Lb) (by rw[<- aE];exact up (by lia));refine ⟨w,Dl*E,2^w,bN L0 E0,ai (aF Lb hE) (by rw[<- aE];exact up (by lia)),cn,av _,λxs hx x hx'=>?_,by lia,by rw[nO hj,lG];lia,by rw[nO hj,lG];exact ai (aF (show min mv.length (mv.length+1)<=n0 by lia) (by lia)) z4⟩;unfold eI at hx;obtain ⟨i,hi,rfl⟩:=bM hx;rw[fH] at hx';rcases az.mp hx' with z | z
  ·exact (tk _ (aK _) x z).up E (ai c1 (up (by lia)))
  ·rw[cp.mp z,cH Dl E];exact (tg _ (aK _)).up Dl (ai c2 (up (by lia)))
 ·have hn':=Il wk lwt (λw h=>(hw w (yP h)).1) lg hr RR;rw[eG] at RR;refine ⟨hn',λy hy=>(hq E _ go R ps E0 lg tg RR hn' y hy).mono ?_⟩;rw[show HV n0 a1 a2 c T0 b=E3 a1 a2 T0+(3+(CL a1 a2 c T0 b+(zQ n0 a1 a2 c T0 - yN a1 a2 c T0))) by unfold HV;lia,aE,aE 2 3,aE 2 (CL a1 a2 c T0 b)];exact aF Lb (aF (show mv.length<=2^3 by lia) (aM _ (up (by lia))))
 ·have t:=Tp.sum (k:=mv.length) (M:=D1*(E*q)) (W:=2^(c*(T0+1)+Fd a1 a2 T0)*2^HV n0 a1 a2 c T0 b) (f:=λj=>xs.getD j 0*x.getD j 0) λj _=>(jb (rk xs hx) j).mul (jb hx' j)
  rw[dD (by rw[wk xs hx,lx]),wk xs hx];refine fg t (bN D10 N0) (ai (aF D1b Nb) (by rw[<- aE];exact up (by lia))) ?_;rw[<- aE];refine ai (aG _ (show mv.length<=2^3 by lia)) ?_;rw[<- aE];exact up (by lia)
end
def MX (K:FG9):R2:=λx y H Q=>∃p xs,x=.non/\y=.ref p/\bL K H p xs/\(∀v∈xs,∃t zs,v=.ref t/\mB K H t zs)/\Q (.bl false) H
theorem Ab {w:Value}:∀{xs:List V} {us:List Value},cI xs us->w∈us->∃x,x∈xs/\RelV x w
 | _,_,.nil,h=>by cases h
 | x :: xs,u :: us,.cons r t,h=>by
  rcases aA.mp h with rfl | h
  ·exact ⟨x,cu ..,r⟩
  ·obtain ⟨y,a,b⟩:=Ab t h;exact ⟨y,ba _ a,b⟩
theorem Ja (hu:X.A.units+50 < cLine):xi X (compareOp .In) (MX X.K):=by
 intro pins s σ H x y v u Q I rx ry h;obtain ⟨p,xs,rfl,rfl,hq,ht,q⟩:=h;cases rx;cases ry;obtain ⟨its,r,pl,hz⟩:=I.list hq;refine SeqAt.in_listAt (λ_=>false) pl.isList (λw hw=>?_) ⟨.bl _,H,I,rfl,?_⟩
 ·obtain ⟨x,hx,rw⟩:=Ab (w:=w) r (by simpa using hw);obtain ⟨t,zs,rfl,hT⟩:=ht x hx;cases rw;obtain ⟨_,_,pt,_⟩:=I.tuple hT;exact SeqAt.EqAt.tuple_none pt (by have:X.A.in1.units=X.A.units+1:=rfl;lia)
 ·rw[show its.toArray.any (λ_=>false)=false by simp];exact q
def DT (xs ys:List Rat):Prop:=∃M W D B:Nat,0 < M/\0 < D/\1<=W/\1<=B/\(∀x∈xs,Tp M W x)/\(∀y∈ys,Tp D B y)/\M*D<=2^3990/\128*(W*B)<=2^3990
section
variable {xs ys:List Rat}
theorem DT.x (h:DT xs ys) {x:Rat} (hx:x∈xs):gL x:=by
 obtain ⟨M,W,D,B,M0,D0,W1,B1,h1,_,b1,b2⟩:=h;have p39:(2:Nat)^3990<=2^3995:=au (by decide) (by decide);have a1:M<=M*D:=cT _ D0;have a2:W<=W*B:=cT _ B1;exact fg (h1 x hx) M0 (by lia) (by lia)
theorem DT.y (h:DT xs ys) {y:Rat} (hy:y∈ys):gL y:=by
 obtain ⟨M,W,D,B,M0,D0,W1,B1,_,h1,b1,b2⟩:=h;have p39:(2:Nat)^3990<=2^3995:=au (by decide) (by decide);have a1:D<=M*D:=gO _ M0;have a2:B<=W*B:=gO _ W1;exact fg (h1 y hy) D0 (by lia) (by lia)
theorem DT.mul (h:DT xs ys) {x y:Rat} (hx:x∈xs) (hy:y∈ys):gL (x*y):=by
 obtain ⟨M,W,D,B,M0,D0,W1,B1,h1,h2,b1,b2⟩:=h;have p39:(2:Nat)^3990<=2^3995:=au (by decide) (by decide);exact fg ((h1 x hx).mul (h2 y hy)) (bN M0 D0) (by lia) (by lia)
theorem DT.sum (h:DT xs ys) (hl:ys.length=xs.length) (h100:xs.length<=100) (i:Nat):gL (bI (xs.take i) (ys.take i)):=by
 obtain ⟨M,W,D,B,M0,D0,W1,B1,h1,h2,b1,b2⟩:=h;have p39:(2:Nat)^3990<=2^3995:=au (by decide) (by decide);have l1:(xs.take i).length=(ys.take i).length:=by rw[bX,bX,hl]
 have l2:(xs.take i).length<=128:=by rw[bX];lia
 rw[dD l1];have t:=Tp.sum (k:=(xs.take i).length) (M:=M*D) (W:=W*B) (f:=λc=>(xs.take i).getD c 0*(ys.take i).getD c 0) λc _=>(jb (λx hx=>h1 x (bS hx)) c).mul (jb (λx hx=>h2 x (bS hx)) c)
 have:(xs.take i).length*(W*B)<=128*(W*B):=aG _ l2;exact fg t (bN M0 D0) (by lia) (by lia)
theorem DT.pow (M0:0 < M) (D0:0 < D) (hM:M<=2^a) (hD:D<=2^c) (h1:∀x∈xs,Tp M (2^e) x) (h2:∀y∈ys,Tp D (2^f) y) (b1:a+c<=3990) (b2:7+(e+f)<=3990):DT xs ys :=
 ⟨M,2^e,D,2^f,M0,D0,cn,cn,h1,h2,ai (aF hM hD) (by rw[<- aE];exact au (by decide) b1),by rw[<- aE];exact ai (aF (show 128<=2^7 by decide) (av _)) (by rw[<- aE];exact au (by decide) b2)⟩
end
inductive C6 (K:FG9) (vs:List V) (H:Hp) (Q:VK) (E9:XK):Prop
 | mk (p q:Addr) (xs ys:List Rat):vs=[.ref p,.ref q]->cx K H p xs->cx K H q ys->ys.length=xs.length->xs.length<=100->DT xs ys->(∀r H',aH H H'->bQ K H' (bI xs ys) (.ref r)->Q (.ref r) H')->C6 K vs H Q E9
inductive CZ (K:FG9) (vs:List V) (H:Hp) (Q:VK) (E9:XK):Prop
 | mk (b:Addr) (m:Nat):vs=[.ref b,.int m,.int 1]->fI H b->m<=8->(∀r ws H',H r=none->cx K H' r ws->ws.length=m->(∀w∈ws,0 < w/\Dr 1000 w)->fI H' b->cG b H H'->Q (.ref r) H')->CZ K vs H Q E9
theorem KR {t b:Int} (h:z*(b:Rat)=(t:Rat)) (hb:0 < b) (ht:0 < t):0 < z:=by
 have h1:(0:Rat) < (b:Rat):=mN.mpr hb;have h2:(0:Rat) < (t:Rat):=mN.mpr ht;by_cases q:0 < z
 ·exact q
 ·have:=Rat.mul_le_mul_of_nonneg_right (Rat.not_lt.mp q) (Rat.le_of_lt h1);rw[h,D6] at this;exact absurd h2 (Rat.not_lt.mpr this)
def GW (K:FG9) (mv pt:LR9) (ws:List Rat) (T N X:Nat) (H:Hp) (g:List Rat) (v:V):Prop:=∃t e p y pr,v=V.ref t/\H t=some (.tup [.str (Str.ofString "puts"),.ref e,.ref p,.ref y])/\bQ K H (bI pr g) (.ref e)/\cx K H y pr/\G9 (kry mv pt T) (ve ws T) mv.length g pr/\∀z∈pr,Tp N X z
theorem GW.same {K:FG9} {g:List Rat} (h:GW K mv pt ws T N X H g v) (s:aH H H'):GW K mv pt ws T N X H' g v:=by
 obtain ⟨t,e,p,y,pr,a,b,c,d,f,i⟩:=h;exact ⟨t,e,p,y,pr,a,s _ _ b,c.same s,d.same s,f,i⟩
inductive Ao (K:FG9) (C:Addr) (vs:List V) (H:Hp) (Q:VK) (E9:XK):Prop
 | mk (x q g:Addr) (T N X:Nat) (H0:Hp) (mv pt lk:LR9) (ws go:List Rat):vs=[.ref x,.ref q,.ref g,.int T]->jZ K H0 H C x mv pt lk->gD mv pt lk->E7 mv pt lk->cx K H q ws->cx K H g go->go.length=mv.length->(∀x∈go,gL x)->Nq mv pt ws T go N X->(∀v H',aH H H'->GW K mv pt ws T N X H' go v->Q v H')->Ao K C vs H Q E9
theorem nU {k:Rat}:∀{y a b:List Rat},a.length=b.length->bI y (List.zipWith (λu v=>u+v) a (b.map λv=>k*v))=bI y a+k*bI y b
 | [],_,_,_=>by rw[zJ,zJ,zJ];grind
 | y :: ys,[],[],_=>by rw[List.zipWith_nil_left,Jq];grind
 | y :: ys,a :: as,b :: bs,h=>by
  rw[dZ,gP,zM,zM,zM,nU (y:=ys) (by simpa using h)];grind
theorem Ka {a b:List Rat}:List.zipWith (λu v=>u+v) a b=List.zipWith (λu v=>u+v) a (b.map λv=>1*v):=by
 rw[show (λv:Rat=>1*v)=id by funext v;exact Rat.one_mul v,j3]
theorem Fc:∀{a b:List Rat},List.zipWith (λu v=>u - v) a b=List.zipWith (λu v=>u+v) a (b.map λv=>-1*v)
 | [],_=>by simp
 | _ :: _,[]=>by simp
 | a :: as,b :: bs=>by
  rw[gP,dZ,gP,Fc (a:=as)];congr 1;grind
section
variable {mv pt lk pus pus':LR9} {ws go:List Rat} {M1 M2 V a1 a2 c T0 n0 b B T w N E a:Nat}
structure Nk (mv pt:LR9) (w T M1 M2 V a1 a2 c n0 T0 b:Nat):Prop where
 bd:Bd mv pt M1 M2 V a1 a2 c
 z:Z65 n0 a1 a2 c T0 b
 hn:mv.length<=n0
 ht:T<=T0
 dr:∀l:List Rat,(∀x∈l,Dr (max w 6) x)->l.length<=2*(T*pt.length)->∃B,0 < B/\B<=2^b/\∀x∈l,Fr B (2^22) x
theorem Kd (R:Rg mv pt w) (D:gD mv pt lk) (ht:T<=mv.length+1):∃M1 M2 V a1 a2 c n0 T0 b,Nk mv pt w T M1 M2 V a1 a2 c n0 T0 b:=by
 have i4:=D.i4;have n8:=D.n8;have small:w<=9->∀l:List Rat,(∀x∈l,Dr (max w 6) x)->l.length<=2*(T*pt.length)->∃B,0 < B/\B<=2^12/\∀x∈l,Fr B (2^22) x:=λw9 l h _=>⟨2520,by decide,by decide,λx hx=>(wK ⟨ai (h x hx).1 (by lia),ai (h x hx).2 (by lia)⟩ (ks _)).mono (by decide)⟩
 rcases R with ⟨w9,X⟩ | ⟨w9,n5,X⟩ | ⟨w9,n2,M1,M2,X⟩
 ·exact ⟨_,_,_,_,_,_,8,9,12,X,by decide,n8,by lia,small w9⟩
 ·exact ⟨_,_,_,_,_,_,5,6,12,X,by decide,n5,by lia,small w9⟩
 ·refine ⟨_,_,_,_,_,_,2,3,242,X,by decide,n2,by lia,λl h hl=>?_⟩;obtain ⟨B,h0,h1,h2⟩:=yl (c:=10) (l:=l) (λx hx=>⟨ai (h x hx).1 (by rw[w9];decide),ai (h x hx).2 (by rw[w9];decide)⟩) (by decide);have m:T*pt.length<=3*4:=aF (by lia) i4;exact ⟨B,h0,ai h1 (p2 (by lia)),h2⟩
theorem Nk.ends (U:Nk mv pt w T M1 M2 V a1 a2 c n0 T0 b) (D:gD mv pt lk) (hp:ME pt T w pus) (hp':ME pt T w pus'):∃E,0 < E/\E*2520<=2^BF a1 a2 T0 b/\(LB mv pt pus (List.replicate mv.length 0)/\∀x∈oG mv pt (List.replicate mv.length 0) pus T,Fr E (2^(c*T0+22)) x)/\LB mv pt pus' (List.replicate mv.length 0)/\∀x∈oG mv pt (List.replicate mv.length 0) pus' T,Fr E (2^(c*T0+22)) x:=by
 obtain ⟨B,B0,B1,hB⟩:=U.dr (pus.flatten++pus'.flatten) (λx hx=>by
  rcases az.mp hx with hx | hx
  ·obtain ⟨xs,m1,m2⟩:=dQ.mp hx;exact (hp.2 xs m1).2 x m2
  ·obtain ⟨xs,m1,m2⟩:=dQ.mp hx;exact (hp'.2 xs m1).2 x m2) (by
  rw[ax,oC λxs hx=>(hp.2 xs hx).1,oC λxs hx=>(hp'.2 xs hx).1,hp.1,hp'.1]
  lia)
 have X:=U.bd;have n0':0 < M2*B:=bN X.m2 B0;have hN:M2*B<=2^(a2+b):=by rw[aE];exact aF X.b2 B1
 have l0:(List.replicate mv.length (0:Rat)).length=mv.length:=aL ..;have hs:∀x∈List.replicate mv.length (0:Rat),Fr (M2*B) (2^22) x:=λx hx=>by rw[rj hx];exact Fr.zero
 obtain ⟨_,_,_,_,_,_,_,_,_,_,z9⟩:=U.z
 have one:∀ps:LR9,ME pt T w ps->(∀xs∈ps,∀x∈xs,Fr B (2^22) x)->LB mv pt ps (List.replicate mv.length 0)/\∀x∈oG mv pt (List.replicate mv.length 0) ps T,Fr (M1^T0*(M2*B)) (2^(c*T0+22)) x:=λps dp hu=>by
  have wp:∀xs∈ps,xs.length=pt.length:=λxs hx=>(dp.2 xs hx).1
  have ht:=U.ht;have e1:a1*(ps.length+1)<=a1*(T0+2):=aM _ (by rw[dp.1];lia);have e2:c*(ps.length+1)<=c*(T0+3):=aM _ (by rw[dp.1];lia);have e3:c*1<=c*(T0+3):=aM _ (by lia);have sz:a1*(ps.length+1)+(a2+b)+c*(ps.length+1)+22<=3900:=by lia
  have s2:a2+c<=3900:=by lia
  refine ⟨⟨M1,M2,V,a1,a2,c,M2*B,B,22,a2+b,X,n0',hN,ks _,hs,hu,sz,s2⟩,λx hx=>?_⟩;have f:=(X.states D l0 wp n0' hN (ks _) hs hu sz s2 T (by rw[dp.1];exact av _)).1 x hx;exact Fr.up f (Nat.mul_dvd_mul_right (Nat.pow_dvd_pow _ ht) _) (p2 (by have:=aM c ht;lia))
 refine ⟨M1^T0*(M2*B),bN (yJ X.m1) n0',?_,one pus hp λxs hx x hx'=>hB x (d5 _ (dQ.mpr ⟨xs,hx,hx'⟩)),one pus' hp' λxs hx x hx'=>hB x (bE _ (dQ.mpr ⟨xs,hx,hx'⟩))⟩;have:=nJ (t:=T0) X.b1 hN;rw[show BF a1 a2 T0 b=a1*T0+(a2+b)+12 by unfold BF;lia,aE 2 (a1*T0+(a2+b))];exact aF this (by decide)
structure oh (mv pt:LR9) (T E k:Nat) (go:List Rat):Prop where
 len:go.length=mv.length
 fr:∀x∈go,Fr E (2^k) x
 rch:Ho mv pt T go
theorem oh.comb (h1:oh mv pt T E k g1) (h2:oh mv pt T E k g2) (hf:Dr 9 f):oh mv pt T (E*2520) (k+4) (List.zipWith (λu v=>u+v) g1 (g2.map λv=>f*v)):=by
 refine ⟨by rw[bg,ak,h1.len,h2.len,kr],λx hx=>?_,h1.rch.comb h2.rch λy _=>nU (by rw[h1.len,h2.len])⟩;obtain ⟨j,hj,e⟩:=bM hx;rw[fH,lD] at e;rw[<- e];have f1:=(h1.fr _ (aK (l:=g1) (n:=j) (by rw[bg,ak] at hj;lia))).dvd (D9 E 2520);have f2:=(wK hf (ks 2520)).mul (h2.fr _ (aK (l:=g2) (n:=j) (by rw[bg,ak] at hj;lia)));rw[cH 2520 E] at f2;refine (f1.add f2).mono ?_;rw[aE]
 lia
theorem oh.up (h:oh mv pt T E k go):oh mv pt T (E*2520) (k+4) go:=⟨h.len,λx hx=>Fr.up (h.fr x hx) (D9 _ _) (p2 (by lia)),h.rch⟩
theorem Jh:oh mv pt T E k (List.replicate mv.length 0):=⟨aL ..,λx hx=>by rw[rj hx];exact Fr.zero,λpr _ _=>wL pr _⟩
theorem s65 (N0:0 < N) (hb:N<=2^3900) (ha:a<=3900) (t0:Tp N (2^a) e0) (t1:Tp N (2^a) e1) (t2:Tp N (2^a) e2) (t3:Tp N (2^a) e3) (td:Tp N (2^a) d) (hf:Dr 9 f):(gL e0/\gL e1/\gL e2/\gL e3)/\gL (e0+e1)/\gL d/\gL f/\gL (f*d)/\gL (f*d+f*d)/\gL (e0+(f*d+f*d))/\gL (f*f)/\gL (f*f*e1):=by
 have up:∀{k M:Nat},k<=2^40->M<=2^3900->k*M<=2^3995:=λhk hM=>ai (aF hk hM) (by rw[<- aE];exact p2 (by decide))
 have bA:(2:Nat)^a<=2^3900:=p2 ha;have tf:Tp 2520 22680 f:=Tp.of (wK hf (ks 2520)) (by decide);have tm:=tf.mul td;have tq:=(tf.mul tf).mul t1;have t0':Tp (2520*N) (2520*2^a) e0:=by rw[cH 2520];exact t0.up 2520 (by rw[cH];exact av _)
 have N1:0 < 2520*N:=by lia
 have N2:2520*N<=2^3995:=up (by decide) hb;have own:∀{e:Rat},Tp N (2^a) e->gL e:=λh=>fg h N0 (ai hb (p2 (by decide))) (ai bA (p2 (by decide)))
 refine ⟨⟨own t0,own t1,own t2,own t3⟩,?_,own td,?_,?_,?_,?_,?_,?_⟩
 ·exact fg (t0.add t1) N0 (ai hb (p2 (by decide))) (by rw[<- Nat.two_mul];exact up (by decide) bA)
 ·exact fg tf (by decide) (ai (show 2520<=2^12 by decide) (p2 (by decide))) (ai (show 22680<=2^15 by decide) (p2 (by decide)))
 ·exact fg tm N1 N2 (up (by decide) bA)
 ·exact fg (tm.add tm) N1 N2 (by rw[<- mL];exact up (by decide) bA)
 ·exact fg (t0'.add (tm.add tm)) N1 N2 (by rw[<- mL,<- mL];exact up (by decide) bA)
 ·exact fg (tf.mul tf) (by decide) (ai (show 2520*2520<=2^24 by decide) (p2 (by decide))) (ai (show 22680*22680<=2^30 by decide) (p2 (by decide)))
 ·exact fg tq (bN (by decide) N0) (up (by decide) hb) (up (by decide) bA)
theorem oh.szn (h:oh mv pt T E k go) (E0:0 < E) (hE:E<=2^e) (he:k+e<=3900):∀x∈go,gL x:=λx hx=>fg (Tp.of (h.fr x hx) (W:=2^(k+e)) (by rw[aE];exact aM _ hE)) E0 (ai hE (p2 (by lia))) (p2 (by lia))
theorem oh.szf (h:oh mv pt T E k go) (hf:Dr 9 f) (E0:0 < E) (hE:E*2520<=2^e) (he:k+4+e<=3900):∀x∈go.map λy=>f*y,gL x:=λx hx=>by
 obtain ⟨y,hy,rfl⟩:=ay.mp hx;have f2:=(wK hf (ks 2520)).mul (h.fr y hy);rw[cH 2520 E] at f2;refine fg (Tp.of f2 (W:=2^(k+4+e)) ?_) (by lia) (ai hE (p2 (by lia))) (p2 (by lia));rw[aE 2 (k+4)];refine aF ?_ hE;rw[aE]
 lia
end
theorem Gy (lx:xs.length=n) (lg:gs.length=n) (n8:n<=8) (h1:∀x∈xs,Tp N (2^e) x) (h2:∀x∈gs,Tp D (2^f) x):Tp (N*D) (2^(3+e+f)) (bI xs gs):=by
 rw[dD (by rw[lx,lg]),lx];refine (Tp.sum λj _=>(jb h1 j).mul (jb h2 j)).mono ?_;rw[aE 2 (3+e),aE 2 3,cN];exact aG _ (show n<=2^3 by lia)
theorem IY {F:α->V->Prop} {a0 a1 a2 a3 a4 a5:α} (h:Paired F [a0,a1,a2,a3,a4,a5] ys):∃v0 v1 v2 v3 v4 v5,ys=[v0,v1,v2,v3,v4,v5]/\F a0 v0/\F a1 v1/\F a2 v2/\F a3 v3/\F a4 v4/\F a5 v5:=by
 cases h with | cons h0 t=>cases t with | cons h1 t=>cases t with | cons h2 t=>cases t with | cons h3 t=>cases t with | cons h4 t=>cases t with | cons h5 t=>cases t;exact ⟨_,_,_,_,_,_,rfl,h0,h1,h2,h3,h4,h5⟩
end L2
open L2
local macro_rules | `(tactic| walk_at "hl") => `(tactic| first | (show _ ≤ sizeLine; with_unfolding_all decide) | (with_unfolding_all exact (by decide)))
local macro_rules | `(tactic| walk_at "sq") => `(tactic| first | with_reducible assumption | with_reducible exact mB.of (by assumption) | with_reducible exact bL.of (by assumption) | with_reducible exact mB.of aJ | with_reducible exact bL.of aJ | assumption)
local macro_rules | `(tactic| walk_at "sc") => `(tactic| first | (with_reducible show (0 : Int) < _; decide) | with_reducible exact Js (by decide) (by decide) | with_reducible exact DR (by decide) (by decide) | with_reducible exact cpow_of (by decide) (by decide) (by decide))
local macro_rules | `(tactic| walk_at "rd") => `(tactic| first
  | with_reducible refine Ku ?_
  | with_reducible refine Iy ?_
  | with_reducible refine KL ?_
  | with_reducible refine FI ?_
  | ((with_reducible refine' Kr ?hx1 ?_); (case hx1 => with_unfolding_all rfl))
  | with_reducible refine MT ?_
  | with_reducible refine Mc ?_
  | with_reducible refine Mf ?_
  | with_reducible refine L8 ?_
  | with_reducible refine MU ?_
  | with_reducible refine KJ ?_
  | with_reducible refine KA ?_
  | with_reducible refine KI ?_
  | with_reducible refine Kz ?_
  | with_reducible refine rd_eqB ?_
  | with_reducible refine rd_neB ?_
  | with_reducible refine IB ?_
  | with_reducible refine BS ?_
  | with_reducible refine KH ?_
  | with_reducible refine Iu ?_
  | with_reducible refine Iz ?_
  | with_reducible refine IA ?_
  | with_reducible refine FH ?_
  | with_reducible refine Ir ?_
  | with_reducible refine L9 ?_
  | with_reducible refine Kv ?_
  | with_reducible refine rd_retN ?_
  | with_reducible refine KE ?_
  | with_reducible refine KN ?_
  | with_reducible refine Mb ?_
  | with_reducible refine Kx ?_
  | with_reducible refine IL ?_
  | with_reducible refine rd_orV ?_
  | with_reducible refine Iw ?_
  | with_reducible refine rd_ifE ?_
  | with_reducible refine Kq ?_
  | with_reducible refine K7 ?_
  | with_reducible refine Mm ?_
  | with_reducible refine Mn ?_
  | with_reducible refine Mo ?_
  | with_reducible refine L7 ?_
  | with_reducible refine Ky ?_
  | with_reducible refine IH ?_
  | with_reducible refine Ks ?_
  | with_reducible refine KC ?_
  | with_reducible refine IJ ?_
  | with_reducible refine Md ?_
  | with_reducible refine IG ?_
  | with_reducible refine Kw ?_
  | with_reducible refine IK ?_
  | ((with_reducible refine' rd_aug ?hx1 ?_); (case hx1 => with_unfolding_all rfl))
  | with_reducible refine KD ?_
  | with_reducible refine ID ?_
  | with_reducible refine FJ ?_
  | with_reducible refine IE ?_
  | with_reducible refine Ma ?_
  | with_reducible refine Et ?_
  | with_reducible refine Iv ?_
  | with_reducible refine KG ?_
  | with_reducible refine FG ?_
  | with_reducible refine rd_iTup ?_
  | with_reducible refine FF ?_
  | with_reducible refine FE ?_
  | ((with_reducible refine' II ?hx1 ?_); (case hx1 => with_unfolding_all rfl))
  | with_reducible refine Iq ?_
  | with_reducible refine Me ?_
  | with_reducible refine rd_bm0 ?_
  | with_reducible refine rd_brk ?_
  | ((with_reducible refine' IC ?hx1 ?hx2 ?_); (case hx1 => walk_at "sq"); (case hx2 => with_unfolding_all rfl))
  | with_reducible refine rd_cont ?_
  | ((with_reducible refine' eC ?hx1 ?_); (case hx1 => walk_at "sc"))
  | ((with_reducible refine' BU ?hx1 ?hx2 ?_); (case hx1 => walk_at "sq"); (case hx2 => with_unfolding_all rfl))
  | ((with_reducible refine' cA ?hx1 ?hx2 ?_); (case hx1 => walk_at "sq"); (case hx2 => with_unfolding_all rfl))
  | ((with_reducible refine' IF ?hx1 ?hx2 ?_); (case hx1 => walk_at "sq"); (case hx2 => with_unfolding_all rfl))
  | ((with_reducible refine' d6 ?hx1 ?hx2 ?hx3 ?_); (case hx1 => with_reducible first | assumption | exact aJ); (case hx2 => with_unfolding_all rfl); (case hx3 => with_unfolding_all rfl))
  | with_reducible refine ⟨_, rfl, ?_⟩
  | with_reducible refine ⟨_, _, rfl, ?_⟩)
local macro_rules | `(tactic| walk_at "w") => `(tactic| repeat walk_at "rd")
local macro_rules | `(tactic| walk_at "d") => `(tactic| exact ⟨rfl,rfl,rfl,by decide +kernel,rfl,by decide +kernel,by decide +kernel⟩)
namespace Lw
open PySem PySem.Spec PyProof.Rows L2 Nm
local macro_rules | `(tactic| exists $e) => `(tactic| (walk_at "w";refine $e))
set_option maxHeartbeats 4000000
def top (i:Nat):Stmt:=PySem.Challenge.pw_helmsum_k65_whole_least_is_a_square.main.body.getD i (.Pass ⟨0,0,0,0⟩)
abbrev pE:Stmt:=top 62
abbrev m7:Stmt:=top 63
abbrev jA:Stmt:=top 78
abbrev nA:Stmt:=top 80
abbrev pA:Stmt:=top 64
abbrev ph:Stmt:=top 65
abbrev ng:Stmt:=top 71
abbrev m9:Stmt:=top 67
abbrev rQ:Stmt:=top 73
abbrev lS:Stmt:=top 75
abbrev iS:Stmt:=top 81
abbrev kD:Stmt:=top 68
abbrev pk:Stmt:=top 69
abbrev ni:Stmt:=top 74
abbrev lQ:Stmt:=top 76
abbrev kC:Stmt:=top 82
abbrev mX:Stmt:=top 58
abbrev pe:Stmt:=top 10
abbrev iR:Stmt:=top 11
abbrev m5:Stmt:=top 13
abbrev vJ:Stmt:=top 18
abbrev kB:Stmt:=top 59
abbrev dF:Stmt:=inClass (top 60) 0
abbrev kE:Stmt:=top 77
abbrev nk:Stmt:=top 83
abbrev jO:Stmt:=top 88
abbrev lP:Stmt:=top 84
abbrev pC:Stmt:=top 70
abbrev rO:Stmt:=top 79
abbrev nh:Stmt:=top 86
abbrev pB:Stmt:=top 87
abbrev m8:Stmt:=top 85
abbrev nH:Stmt:=top 66
abbrev lT:Stmt:=top 72
abbrev iq:Stmt:=top 12
abbrev jr:Stmt:=top 20
abbrev mY:Stmt:=top 21
abbrev vH:Stmt:=top 14
abbrev rJ:Stmt:=top 22
abbrev rM:Stmt:=top 25
abbrev lK:Stmt:=top 43
abbrev m6:Stmt:=top 44
abbrev zh:Stmt:=top 15
abbrev mZ:Stmt:=top 19
abbrev kz:Stmt:=top 26
abbrev eP:Stmt:=inClass (top 60) 1
abbrev vK:Stmt:=top 31
abbrev lJ:Stmt:=top 23
abbrev ky:Stmt:=top 46
abbrev rL:Stmt:=top 47
abbrev lN:Stmt:=top 33
abbrev rN:Stmt:=top 35
abbrev lO:Stmt:=top 34
abbrev zf:Stmt:=top 36
abbrev vF:Stmt:=top 39
abbrev zg:Stmt:=top 40
abbrev BP:Stmt:=top 28
abbrev lM:Stmt:=top 27
abbrev vG:Stmt:=top 16
abbrev m4:Stmt:=top 50
abbrev vI:Stmt:=top 52
abbrev BQ:Stmt:=top 48
abbrev rK:Stmt:=top 51
abbrev zi:Stmt:=top 53
abbrev lU:Stmt:=top 89
abbrev Fy:Stmt:=top 90
set_option genInjectivity false in
set_option genSizeOf false in
structure Ads where
 xg:Addr
 wV:FuncData
 uv:Addr
 tX:FuncData
 qX:Addr
 qJ:FuncData
 uF:Addr
 ug:FuncData
 xc:Addr
 wQ:FuncData
 w5:Addr
 wN:FuncData
 uB:Addr
 t8:FuncData
 uy:Addr
 tZ:FuncData
 yG:Addr
 yt:FuncData
 qZ:Addr
 qL:FuncData
 lB:Addr
 k9:FuncData
 oY:Addr
 oS:FuncData
 xa:Addr
 wO:FuncData
 uD:Addr
 ue:FuncData
 qY:Addr
 qK:FuncData
 oX:Addr
 oR:FuncData
 uj:Addr
 tR:FuncData
 wZ:Addr
 wM:FuncData
 lA:Addr
 k6:FuncData
 ur:Addr
 tV:FuncData
 Bj:Addr
 A2:FuncData
 oW:Addr
 oQ:FuncData
 iL:Addr
 iJ:FuncData
 oZ:Addr
 oT:FuncData
 uE:Addr
 uf:FuncData
 oa:Addr
 nW:FuncData
 qW:Addr
 qI:FuncData
 pU:Addr
 pR:FuncData
 yF:Addr
 yr:FuncData
 uC:Addr
 t9:FuncData
 xf:Addr
 wU:FuncData
 uw:Addr
 tY:FuncData
 uG:Addr
 uh:FuncData
 rf:Addr
 qM:FuncData
 kh:Addr
 ke:FuncData
 mI:Addr
 mH:FuncData
 uk:Addr
 tS:FuncData
 Bh:Addr
 A0:FuncData
 tx:Addr
 sY:FuncData
 tz:Addr
 sZ:FuncData
 qS:Addr
 qE:FuncData
 uu:Addr
 tW:FuncData
 DZ:Addr
 DO:FuncData
 uo:Addr
 tT:FuncData
 oV:Addr
 oP:FuncData
 jY:Addr
 jX:FuncData
 Bl:Addr
 A3:FuncData
 qR:Addr
 qD:FuncData
 oU:Addr
 oO:FuncData
 yD:Addr
 yo:FuncData
 qU:Addr
 qG:FuncData
 yE:Addr
 yp:FuncData
 qV:Addr
 qH:FuncData
 DX:Addr
 DM:FuncData
 Bf:Addr
 AY:FuncData
 DY:Addr
 DN:FuncData
 GS:Addr
 GC:FuncData
 qT:Addr
 qF:FuncData
 Bg:Addr
 AZ:FuncData
 uq:Addr
 tU:FuncData
 Bi:Addr
 A1:FuncData
 GU:Addr
 GD:FuncData
 yC:Addr
 ym:FuncData
 D3:Addr
 DP:FuncData
 rg:Addr
 qN:FuncData
 J0:Addr
 JZ:FuncData
 a_NOUGHT:Addr
 a_ONE:Addr
 t_MOST_STATES:Tok
 t_MOST_PUTS:Tok
 t_MOST_LOOKS:Tok
 a_System:Addr
structure Txt (K:W.Frag) (mg:Str->Option Value) (Z:Ads):Prop where
 nM:Df K mg "_law_bag" pE ["_law_script"] Z.xg Z.wV
 aO:Df K mg "_law_take" m7 ["_law_bag_here","_law_many"] Z.uv Z.tX
 kN:Df K mg "_law_sizes" jA ["_law_bag_here"] Z.qX Z.qJ
 iG:Df K mg "_law_line" nA ["_law_bag_here","_law_n"] Z.uF Z.ug
 eY:Df K mg "_law_low" pA ["_law_top","_law_bottom"] Z.xc Z.wQ
 c6:Df K mg "_law_sum" ph ["_law_one","_law_other"] Z.w5 Z.wN
 fU:Df K mg "_law_plus" ng ["_law_one","_law_other"] Z.uB Z.t8
 dy:Df K mg "_law_prod" m9 ["_law_one","_law_other"] Z.uy Z.tZ
 jW:Df K mg "_law_by" rQ ["_law_by_here","_law_row_here"] Z.yG Z.yt
 jd:Df K mg "_law_mixed" lS ["_law_bag_here","_law_move_here","_law_put","_law_look"] Z.qZ Z.qL
 iE:Df K mg "_law_two_lines" iS ["_law_bag_here"] Z.lB Z.k9
 iF:Df K mg "_law_number" kD ["_law_bag_here","_law_wide"] Z.oY Z.oS
 hX:Df K mg "_law_row" pk ["_law_bag_here","_law_many","_law_wide"] Z.xa Z.wO
 md:Df K mg "_law_move" ni ["_law_bag_here","_law_n","_law_way","_law_first","_law_wide"] Z.uD Z.ue
 kO:Df K mg "_law_parts" lQ ["_law_bag_here","_law_n","_law_ins","_law_outs","_law_wide"] Z.qY Z.qK
 jV:Df K mg "_law_system" kC ["_law_bag_here"] Z.oX Z.oR
 iD:Df K mg "want_list" mX ["thing","at","most"] Z.uj Z.tR
 kb:Df K mg "is_whole" pe ["thing"] Z.wZ Z.wM
 d9:Df K mg "common_divisor" iR ["one","other"] Z.lA Z.k6
 l8:Df K mg "is_number" m5 ["thing"] Z.ur Z.tV
 sk:Df K mg "is_row" vJ ["thing","many"] Z.Bj Z.A2
 fP:Df K mg "copied_rows" kB ["things","wide"] Z.oW Z.oQ
 kg:Binds K Z.iJ ["self","move","put","look"] []
 kj:Hq K "__init__" "System.__init__" dF Z.iL Z.iJ
 fQ:Df K mg "_law_copied" kE ["_law_grid"] Z.oZ Z.oT
 me:Df K mg "_law_made" nk ["_law_parts_here"] Z.uE Z.uf
 ju:Df K mg "_law_weights" jO ["_law_bag_here","_law_many","_law_begin"] Z.oa Z.nW
 kM:Df K mg "_law_steps" lP ["_law_bag_here","_law_parts_here"] Z.qW Z.qI
 jn:Df K mg "_law_dot" pC ["_law_one","_law_other"] Z.pU Z.pR
 pQ:Df K mg "_law_on" rO ["_law_grid","_law_row_here"] Z.yF Z.yr
 ma:Df K mg "_law_next" nh ["_law_parts_here","_law_state","_law_puts_here"] Z.uC Z.t9
 kd:Df K mg "_law_end" pB ["_law_parts_here","_law_start","_law_rows"] Z.xf Z.wU
 jF:Df K mg "_law_puts" m8 ["_law_bag_here","_law_parts_here","_law_steps_here","_law_wide"] Z.uw Z.tY
 jG:Df K mg "_law_less" nH ["_law_one","_law_other"] Z.uG Z.uh
 kQ:Df K mg "_law_minus" lT ["_law_one","_law_other"] Z.rf Z.qM
 gV:Df K mg "common_multiple" iq ["wholes"] Z.kh Z.ke
 dm:Df K mg "common_bottom" jr ["row"] Z.mI Z.mH
 ft:Df K mg "tops_over" mY ["row","bottom"] Z.uk Z.tS
 iZ:Df K mg "lowest" vH ["top","bottom"] Z.Bh Z.A0
 gU:Df K mg "row_dot" rJ ["one","other"] Z.tx Z.sY
 i5:Df K mg "grid_on" rM ["grid","row"] Z.tz Z.sZ
 kI:Df K mg "moved_rows" lK ["system","rows"] Z.qS Z.qE
 l9:Df K mg "additions" m6 ["system","steps"] Z.uu Z.tW
 wd:Df K mg "minus" zh ["one","other"] Z.DZ Z.DO
 l7:Df K mg "row_minus" mZ ["one","other"] Z.uo Z.tT
 eT:Df K mg "grid_turned" kz ["grid","wide"] Z.oV Z.oP
 mG:Lo K Z.a_System "moved" Z.jY
 nZ:Binds K Z.jX ["self","state","puts"] []
 oi:Hq K "moved" "System.moved" eP Z.jY Z.jX
 sv:Df K mg "course" vK ["system","start","puts"] Z.Bl Z.A3
 gB:Df K mg "nought_row" lJ ["many"] Z.qR Z.qD
 jU:Df K mg "nothing_for" ky ["system","steps"] Z.oU Z.oO
 pO:Df K mg "lacking" rL ["system","start","goal","steps"] Z.yD Z.yo
 kK:Df K mg "first_with" lN ["lines","begin","place"] Z.qU Z.qG
 pP:Df K mg "cleared" rN ["lines","at","place","before"] Z.yE Z.yp
 kL:Df K mg "brought_up" lO ["lines","at","to"] Z.qV Z.qH
 v9:Df K mg "swept" zf ["rows","wide"] Z.DX Z.DM
 oy:Df K mg "solved" vF ["rows","wide","due"] Z.Bf Z.AY
 wa:Df K mg "solve" zg ["rows","wide","due"] Z.DY Z.DN
 uT:Df K mg "flat" BP ["lists"] Z.GS Z.GC
 kJ:Df K mg "grid_times" lM ["one","other","wide"] Z.qT Z.qF
 rZ:Df K mg "parted" vG ["one","other"] Z.Bg Z.AZ
 jE:Df K mg "parted_by" m4 ["weights","row"] Z.uq Z.tU
 r8:Df K mg "led_to" vI ["weights","lists","wide"] Z.Bi Z.A1
 zA:Df K mg "come" BQ ["system","start","goal","steps"] Z.GU Z.GD
 pN:Df K mg "puts_at" rK ["price","weights","lists"] Z.yC Z.ym
 we:Df K mg "least" zi ["system","weights","start","goal","steps"] Z.D3 Z.DP
 je:Df K mg "_law_least" lU ["_law_system_here","_law_weights_here","_law_goal","_law_steps_here"] Z.rg Z.qN
 J6:Hq K "law" "law" Fy Z.J0 Z.JZ
 abs:mg "abs"=none
 len:mg "len"=none
 min:mg "min"=none
 int:mg "int"=none
 range:mg "range"=none
 isinstance:mg "isinstance"=none
 list:mg "list"=none
 bool:mg "bool"=none
 tuple:mg "tuple"=none
 all:mg "all"=none
 enumerate:mg "enumerate"=none
 max:mg "max"=none
 zip:mg "zip"=none
 sum:mg "sum"=none
 reversed:mg "reversed"=none
 mg_NOUGHT:mg "NOUGHT"=some (.ref Z.a_NOUGHT)
 sq_NOUGHT:∀H,mB K H Z.a_NOUGHT [.int 0,.int 1]
 mg_ONE:mg "ONE"=some (.ref Z.a_ONE)
 sq_ONE:∀H,mB K H Z.a_ONE [.int 1,.int 1]
 mg_MOST_STATES:mg "MOST_STATES"=some (.int 8 Z.t_MOST_STATES)
 mg_MOST_PUTS:mg "MOST_PUTS"=some (.int 4 Z.t_MOST_PUTS)
 mg_MOST_LOOKS:mg "MOST_LOOKS"=some (.int 4 Z.t_MOST_LOOKS)
 mg_System:mg "System"=some (.ref Z.a_System)
 cl_System:E8 K Z.a_System
 na_move:iM K Z.a_System "move"
 na_states:iM K Z.a_System "states"
 na_put:iM K Z.a_System "put"
 na_ins:iM K Z.a_System "ins"
 na_look:iM K Z.a_System "look"
 na_outs:iM K Z.a_System "outs"
 mk_System:Mk K Z.a_System Z.iL
section
variable {P:Program} {w:World} {K:W.Frag} {mg:Str->Option Value} {base:Heap} {Z:Ads}
theorem Ay:a9 ["_law_script"] ["_law_script"] (aI pE):=by walk_at "d"
theorem AJ (T:Txt K mg Z):cE P w K mg base fA 1 Z.xg Z.wV ["_law_script"] (Fu K):=by
 refine T.nM.F.ok Ay (λvs H Q E h=>?_) (λcdv A outer s H vs Q E hr h=>?_)
 ·obtain ⟨a,ns,rfl,_⟩:=h;rfl
 ·obtain ⟨a,ns,rfl,hS,hlen,k⟩:=h;refine ⟨_,(aw (a8 (dB (ae aj (ae aj (ae aj (ae (b7 ["_law_cell"] [] [] (cw (AH Dc (pv 0) Dn (Dm aj))) (λ_=>(aN (i:=0) (show ND9 ["_law_cell"] by decide +kernel))) (λ_=>b8) (λ_=>(bO qQ (by rfl) T.abs PyProof.Rows.boot_abs (ae (pv 0) ag)))) ag))))))),?_⟩;refine aQ (σ:=[some (.ref a)]) rfl ?_;exists ⟨a,_,rfl,hS,λl hl=>?_⟩;have hcl:(qO (ns.map V.int) none (some 63)).length<=63:=ai (ui _ _ _) (by simpa using hlen);refine ⟨l,rfl,⟨_,bL.of aJ⟩,?_⟩;refine fW (K:=K) (a:=l) (xs:=qO (ns.map V.int) none (some 63)) (λi ys H'=>H'=upd H l (.lst (qO (ns.map V.int) none (some 63)))/\∃cs:List Int,ys=cs.map V.int/\∀x∈cs,0<=x) (ai hcl (by decide)) ⟨rfl,[],rfl,λ_ z=>nomatch z⟩ (λi ys H' _ ⟨e,_⟩=>by subst e;exact bL.of aJ) ?_ ?_
  ·rintro i x ys H' hx hi ⟨rfl,cs,rfl,hcs⟩
   obtain ⟨z,rfl⟩:∃z,x=V.int z:=by
    have hm:x∈ns.map V.int:=List.mem_of_mem_drop (bS (ar hx));obtain ⟨z,_,e⟩:=ay.mp hm;exact ⟨z,e.symm⟩
   exists ⟨rfl,cs++[if z < 0 then -z else z],by simp,λx hx=>?_⟩;rcases az.mp hx with hx | hx
   ·exact hcs x hx
   ·have e:x=if z < 0 then -z else z:=by simpa using hx
    subst e
    split <;> lia
  ·rintro ys H' hy ⟨rfl,cs,rfl,hcs⟩ p hp;exists ⟨by show 4<=sizeLine;decide,λb hb=>?_⟩;have n1:b≠p:=λz=>by rw[z,aJ] at hb;cases hb
   have hb1:(upd H l (.lst (qO (ns.map V.int) none (some 63)))) b=none:=by rw[br n1] at hb;exact hb
   have s1:aH H (upd H l (.lst (qO (ns.map V.int) none (some 63)))):=aH.new hl;refine k b _ (s1.free hb1) ⟨p,0,1234567891,0,cs,aJ,by rw[br n1.symm];exact aJ,by decide,by decide,by lia,hcs⟩ ((s1.trans (aH.new hp)).trans (aH.new hb))
theorem fj:a9 ["_law_bag_here","_law_many","_law_more","_law_cell","_law_value","_law_first","_law_second"] ["_law_bag_here","_law_many"] (aI m7):=by walk_at "d"
theorem aX (T:Txt K mg Z):cE P w K mg base fA 1 Z.uv Z.tX ["_law_bag_here","_law_many"] Ib:=by
 refine T.aO.F.ok fj (λvs H Q E h=>?_) (λcdv A outer s H vs Q E hr h=>?_)
 ·obtain ⟨p,n,rfl,_⟩:=h;rfl
 ·obtain ⟨p,n,rfl,⟨q,a,b,c,cs,hp,hq,ha,hc,hcl,hcs⟩,hn,hn2,k⟩:=h;have nqp:q≠p:=EZ hp hq
  refine ⟨_,(gY (c5 (bu eH (aS bw (pv 0) aj) aj (bG _)) (ao (aU (i:=2) fj.nd rfl (Or.inl rfl) aj)
   (gY (c5 (bu oK (aS bw (pv 0) aj) (bO bD (by rfl) T.len bB (ae (aS bw (pv 0) aj) ag)) (bG _)) (ao (aU (i:=3) fj.nd rfl (Or.inl rfl) (aS bw (aS bw (pv 0) aj) (aS bw (pv 0) aj)))
   (ao (IQ (pv 0) aj Gh aj K8 set_list)
   (ao (c5 (bu vV (pv 3) aj (bG _)) (aw (eQ (pv 3) (fN (pv 0) aj set_list))) bT)
   (aw (aU (i:=2) fj.nd rfl (Or.inl rfl) (bp dG (bp jQ (pv 3) aj) aj)))))) bT)
   (aw (eQ (bp jQ (bp dG (bp cK (aS bw (pv 0) aj) aj) (pv 2)) aj) (fN (pv 0) aj set_list))))) bT)
   (ao (c5 (bu tN (aS bw (pv 0) aj) aj (bG _)) (ao (aU (i:=4) fj.nd rfl (Or.inl rfl) (bp jQ (aS bw (pv 0) aj) (pv 1)))
   (ao (eQ (bp fO (aS bw (pv 0) aj) (pv 1)) (fN (pv 0) aj set_list))
   (aw (a8 (pv 4))))) bT)
   (ao (aU (i:=5) fj.nd rfl (Or.inl rfl) (bp jQ (bp cK (aS bw (pv 0) aj) aj) aj))
   (ao (aU (i:=6) fj.nd rfl (Or.inl rfl) (bp jQ (bp cK (pv 5) aj) aj))
   (ao (c5 (bu tN (pv 1) aj (bG _)) (aw (a8 (bp jQ (bp dG (bp cK (pv 6) aj) (pv 5)) (pv 1)))) bT)
   (aw (a8 (bp jQ (bp fO (pv 6) aj) (pv 1))))))))),?_⟩
  refine aQ (σ:=[some (.ref p),some (.int n),none,none,none,none,none]) rfl ?_;refine ⟨λσ' H'=>∃(x y:Option V) (a' b' c':Int),σ'=[some (.ref p),some (.int n),x,y,none,none,none]/\H' p=some (.lst [.int a',.int b',.int c',.ref q])/\0<=a'/\0<=c'/\c'<=cs.length/\cG p H H',?_,?_⟩
  ·exists gC (λh0=>?_) (λh0=>?_)
   ·exists ⟨λσ' H'=>∃(m:Int) (y:Option V) (a' c':Int),σ'=[some (.ref p),some (.int n),some (.int m),y,none,none,none]/\H' p=some (.lst [.int a',.int b,.int c',.ref q])/\0<=a'/\0<=c'/\c'<=cs.length/\cG p H H',?_,?_⟩
    ·exists ⟨_,_,rfl,.inl (bL.of hq),?_⟩;exists gC (λh1=>?_) (λh1=>?_)
     ·have h1':c < cs.length:=by simpa using of_decide_eq_true h1
      obtain ⟨z,hz⟩:∃z,cs[c.toNat]?=some z:=⟨_,af (by lia)⟩;have hz0:0<=z:=hcs z (ar hz);exists cA (bL.of hq) (v:=.int z) ?_ ?_
      ·have:=fF (xs:=cs.map V.int) (j:=c.toNat) (v:=.int z) (by rw[aB,hz];rfl);rwa [Int.toNat_of_nonneg hc] at this
      exists gC (λh2=>?_) (λh2=>?_)
      ·exists ⟨_,_,z,c+1,rfl,aJ,hz0,by lia,by lia,(cG.set hp).trans (cG.set aJ)⟩
      ·exists ⟨_,_,a,c+1,rfl,aJ,ha,by lia,by lia,cG.set hp⟩
     ·exists ⟨_,_,a,c,rfl,hp,ha,hc,hcl,cG.refl _⟩
    ·rintro σ' H' ⟨m,y,a',c',rfl,hp',ha',hc',hcl',u'⟩;exists ⟨_,_,a',_,c',rfl,aJ,ha',hc',hcl',u'.trans (cG.set hp')⟩
   ·exists ⟨_,_,a,b,c,rfl,hp,ha,hc,hcl,cG.refl _⟩
  ·rintro σ' H' ⟨x,y,a',b',c',rfl,hp',ha',hc',hcl',u'⟩;have hq':H' q=some (.lst (cs.map V.int)):=u'.1 q _ hq nqp
   have sn:Sz 8999 n:=by
    show n.natAbs < 2^8999
    exact bc (show n.natAbs < 2^64 by lia) (au (by decide) (by decide))
   exists gC (λh0=>?_) (λh0=>?_)
   ·exists eC (show (0:Int) < n from hn) ?_;exists eC (show ko _ _ from ⟨by lia,sn⟩) ?_;exists k _ _ (ic _ (by lia)) (ff _ hn) ⟨q,_,b',c',cs,aJ,by rw[br nqp];exact hq',?_,hc',hcl',hcs⟩ (u'.trans (cG.set hp'));rw[bP _ (by lia)];exact Int.ediv_nonneg ha' (by lia)
   ·exists gC (λh1=>?_) (λh1=>?_)
    ·exists eC (show (0:Int) < n from hn) ?_;exact k _ _ (ic _ (by lia)) (ff _ hn) ⟨q,a',b',c',cs,hp',hq',ha',hc',hcl',hcs⟩ u'
    ·exists eC (show ko _ _ from ⟨by decide,by show (3:Nat) < 2^8999;exact bc (show 3 < 2^2 by decide) (au (by decide) (by decide))⟩) ?_;exists eC (show (0:Int) < n from hn) ?_;exact k _ _ (ic _ (by lia)) (ff _ hn) ⟨q,a',b',c',cs,hp',hq',ha',hc',hcl',hcs⟩ u'
theorem xG:∃x1 x2 x3 x4 x5 x6 x7 x8 x9 x10 x11 x12 x13 x14 x15 x16:Expr,x1=(Expr.Constant (Const.int 0) 0 ⟨333,16,333,17⟩)/\x2=(Expr.Constant (Const.int 1) 0 ⟨333,19,333,20⟩)/\x3=(Expr.Constant (Const.int 1) 0 ⟨333,22,333,23⟩)/\x4=(Expr.Constant (Const.int 1) 0 ⟨333,25,333,26⟩)/\x5=(Expr.Constant (Const.int 2) 0 ⟨333,28,333,29⟩)/\x6=(Expr.Constant (Const.int 2) 0 ⟨333,31,333,32⟩)/\x7=(Expr.Constant (Const.int 3) 0 ⟨333,34,333,35⟩)/\x8=(Expr.Constant (Const.int 4) 0 ⟨333,37,333,38⟩)/\x9=(Expr.Constant (Const.int 0) 0 ⟨334,17,334,18⟩)/\x10=(Expr.Constant (Const.int 1) 0 ⟨334,20,334,21⟩)/\x11=(Expr.Constant (Const.int 1) 0 ⟨334,23,334,24⟩)/\x12=(Expr.Constant (Const.int 1) 0 ⟨334,26,334,27⟩)/\x13=(Expr.Constant (Const.int 2) 0 ⟨334,29,334,30⟩)/\x14=(Expr.Constant (Const.int 2) 0 ⟨334,32,334,33⟩)/\x15=(Expr.Constant (Const.int 3) 0 ⟨334,35,334,36⟩)/\x16=(Expr.Constant (Const.int 4) 0 ⟨334,38,334,39⟩)/\iI jA=[ (Stmt.Assign (targets:=[(Expr.Name "_law_n" ⟨330,4,330,10⟩)]) (value:=(Expr.Call (func:=(Expr.Name "_law_take" ⟨330,13,330,22⟩)) (args:=[ (Expr.Name "_law_bag_here" ⟨330,23,330,36⟩),(Expr.Constant (Const.int 5) 0 ⟨330,38,330,39⟩)]) (keywords:=[]) (pos:=⟨330,13,330,40⟩))) (pos:=⟨330,4,330,40⟩)),(Stmt.If (test:=(Expr.Compare (left:=(Expr.Call (func:=(Expr.Name "_law_take" ⟨331,7,331,16⟩)) (args:=[ (Expr.Name "_law_bag_here" ⟨331,17,331,30⟩),(Expr.Constant (Const.int 8) 0 ⟨331,32,331,33⟩)]) (keywords:=[]) (pos:=⟨331,7,331,34⟩))) (ops:=[PySem.CmpOp.Eq]) (comparators:=[(Expr.Constant (Const.int 7) 0 ⟨331,38,331,39⟩)]) (pos:=⟨331,7,331,39⟩))) (body:=[ (Stmt.Assign (targets:=[(Expr.Name "_law_n" ⟨332,8,332,14⟩)]) (value:=(Expr.Constant (Const.int 5) 0 ⟨332,17,332,18⟩)) (pos:=⟨332,8,332,18⟩))]) (orelse:=[]) (pos:=⟨331,4,332,18⟩)),(Stmt.Assign (targets:=[(Expr.Name "_law_ins" ⟨333,4,333,12⟩)]) (value:=(Expr.Subscript (value:=(Expr.List (elts:=[x1,x2,x3,x4,x5,x6,x7,x8]) (pos:=⟨333,15,333,39⟩))) (slice:=(Expr.Call (func:=(Expr.Name "_law_take" ⟨333,40,333,49⟩)) (args:=[ (Expr.Name "_law_bag_here" ⟨333,50,333,63⟩),(Expr.Constant (Const.int 8) 0 ⟨333,65,333,66⟩)]) (keywords:=[]) (pos:=⟨333,40,333,67⟩))) (pos:=⟨333,15,333,68⟩))) (pos:=⟨333,4,333,68⟩)),(Stmt.Assign (targets:=[(Expr.Name "_law_outs" ⟨334,4,334,13⟩)]) (value:=(Expr.Subscript (value:=(Expr.List (elts:=[x9,x10,x11,x12,x13,x14,x15,x16]) (pos:=⟨334,16,334,40⟩))) (slice:=(Expr.Call (func:=(Expr.Name "_law_take" ⟨334,41,334,50⟩)) (args:=[ (Expr.Name "_law_bag_here" ⟨334,51,334,64⟩),(Expr.Constant (Const.int 8) 0 ⟨334,66,334,67⟩)]) (keywords:=[]) (pos:=⟨334,41,334,68⟩))) (pos:=⟨334,16,334,69⟩))) (pos:=⟨334,4,334,69⟩)),(Stmt.If (test:=(Expr.Compare (left:=(Expr.Name "_law_n" ⟨335,7,335,13⟩)) (ops:=[PySem.CmpOp.Eq]) (comparators:=[(Expr.Constant (Const.int 5) 0 ⟨335,17,335,18⟩)]) (pos:=⟨335,7,335,18⟩))) (body:=[ (Stmt.Assign (targets:=[ (Expr.Tuple (elts:=[(Expr.Name "_law_ins" ⟨336,8,336,16⟩),(Expr.Name "_law_outs" ⟨336,18,336,27⟩)]) (k:=0) (pos:=⟨336,8,336,27⟩))]) (value:=(Expr.Tuple (elts:=[ (Expr.Call (func:=(Expr.Name "min" ⟨336,31,336,34⟩)) (args:=[ (Expr.Name "_law_ins" ⟨336,35,336,43⟩),(Expr.Constant (Const.int 2) 0 ⟨336,45,336,46⟩)]) (keywords:=[]) (pos:=⟨336,31,336,47⟩)),(Expr.Call (func:=(Expr.Name "min" ⟨336,49,336,52⟩)) (args:=[ (Expr.Name "_law_outs" ⟨336,53,336,62⟩),(Expr.Constant (Const.int 2) 0 ⟨336,64,336,65⟩)]) (keywords:=[]) (pos:=⟨336,49,336,66⟩))]) (k:=0) (pos:=⟨336,30,336,67⟩))) (pos:=⟨336,8,336,67⟩))]) (orelse:=[]) (pos:=⟨335,4,336,67⟩)),(Stmt.Assign (targets:=[(Expr.Name "_law_wide" ⟨337,4,337,13⟩)]) (value:=(Expr.Subscript (value:=(Expr.List (elts:=[ (Expr.Constant (Const.int 4) 0 ⟨337,17,337,18⟩),(Expr.Constant (Const.int 4) 0 ⟨337,20,337,21⟩),(Expr.Constant (Const.int 9) 0 ⟨337,23,337,24⟩),(Expr.Constant (Const.int 1000000) 0 ⟨337,26,337,33⟩)]) (pos:=⟨337,16,337,34⟩))) (slice:=(Expr.Call (func:=(Expr.Name "_law_take" ⟨337,35,337,44⟩)) (args:=[ (Expr.Name "_law_bag_here" ⟨337,45,337,58⟩),(Expr.Constant (Const.int 4) 0 ⟨337,60,337,61⟩)]) (keywords:=[]) (pos:=⟨337,35,337,62⟩))) (pos:=⟨337,16,337,63⟩))) (pos:=⟨337,4,337,63⟩)),(Stmt.If (test:=(Expr.Compare (left:=(Expr.Name "_law_wide" ⟨338,7,338,16⟩)) (ops:=[PySem.CmpOp.Gt]) (comparators:=[(Expr.Constant (Const.int 9) 0 ⟨338,19,338,20⟩)]) (pos:=⟨338,7,338,20⟩))) (body:=[ (Stmt.Assign (targets:=[(Expr.Name "_law_n" ⟨339,8,339,14⟩)]) (value:=(Expr.Call (func:=(Expr.Name "min" ⟨339,17,339,20⟩)) (args:=[ (Expr.Name "_law_n" ⟨339,21,339,27⟩),(Expr.Constant (Const.int 2) 0 ⟨339,29,339,30⟩)]) (keywords:=[]) (pos:=⟨339,17,339,31⟩))) (pos:=⟨339,8,339,31⟩))]) (orelse:=[]) (pos:=⟨338,4,339,31⟩)),(Stmt.Return (value:=(some (Expr.Tuple (elts:=[ (Expr.Name "_law_n" ⟨340,12,340,18⟩),(Expr.Name "_law_ins" ⟨340,20,340,28⟩),(Expr.Name "_law_outs" ⟨340,30,340,39⟩),(Expr.Name "_law_wide" ⟨340,41,340,50⟩)]) (k:=0) (pos:=⟨340,11,340,51⟩)))) (pos:=⟨340,4,340,51⟩))]:=⟨_,_,_,_,_,_,_,_,_,_,_,_,_,_,_,_,rfl,rfl,rfl,rfl,rfl,rfl,rfl,rfl,rfl,rfl,rfl,rfl,rfl,rfl,rfl,rfl,by with_unfolding_all rfl⟩
theorem dP:a9 ["_law_bag_here","_law_n","_law_ins","_law_outs","_law_wide"] ["_law_bag_here"] (aI jA):=by walk_at "d"
theorem xB (T:Txt K mg Z):cE P w K mg base fA 2 Z.qX Z.qJ ["_law_bag_here"] Ek:=by
 refine T.kN.F.ok dP (λvs H Q E h=>?_) (λcdv A outer s H vs Q E hr h=>?_)
 ·obtain ⟨b,rfl,_⟩:=h;rfl
 ·obtain ⟨b,rfl,hB,k⟩:=h;obtain ⟨x1,x2,x3,x4,x5,x6,x7,x8,x9,x10,x11,x12,x13,x14,x15,x16,hx1,hx2,hx3,hx4,hx5,hx6,hx7,hx8,hx9,hx10,hx11,hx12,hx13,hx14,hx15,hx16,hbd⟩:=xG;rw[hbd]
  refine ⟨_,(ao (aU (i:=1) dP.nd rfl (Or.inl rfl) (cv (aX T) hr T.aO (ae (pv 0) (ae aj ag))))
   (gY (c5 (bu eH (cv (aX T) hr T.aO (ae (pv 0) (ae aj ag))) aj (bG _)) (aw (aU (i:=1) dP.nd rfl (Or.inl rfl) aj)) bT)
   (ao (aU (i:=2) dP.nd rfl (Or.inl rfl) (aS bw (dB (dI hx1 aj (dI hx2 aj (dI hx3 aj (dI hx4 aj (dI hx5 aj (dI hx6 aj (dI hx7 aj (dI hx8 aj ag))))))))) (cv (aX T) hr T.aO (ae (pv 0) (ae aj ag)))))
   (ao (aU (i:=3) dP.nd rfl (Or.inl rfl) (aS bw (dB (dI hx9 aj (dI hx10 aj (dI hx11 aj (dI hx12 aj (dI hx13 aj (dI hx14 aj (dI hx15 aj (dI hx16 aj ag))))))))) (cv (aX T) hr T.aO (ae (pv 0) (ae aj ag)))))
   (gY (c5 (bu eH (pv 1) aj (bG _)) (aw (FK (i:=2) (j:=3) rfl dP.nd rfl rfl (by decide) rfl rfl (ae (bO (oF rfl) (by rfl) T.min PyProof.Rows.boot_min (ae (pv 2) (ae aj ag))) (ae (bO (oF rfl) (by rfl) T.min PyProof.Rows.boot_min (ae (pv 3) (ae aj ag))) ag)) rfl)) bT)
   (ao (aU (i:=4) dP.nd rfl (Or.inl rfl) (aS bw (dB (ae aj (ae aj (ae aj (ae aj ag))))) (cv (aX T) hr T.aO (ae (pv 0) (ae aj ag)))))
   (gY (c5 (bu tN (pv 4) aj (bG _)) (aw (aU (i:=1) dP.nd rfl (Or.inl rfl) (bO (oF rfl) (by rfl) T.min PyProof.Rows.boot_min (ae (pv 1) (ae aj ag))))) bT)
   (aw (a8 (cL (ae (pv 1) (ae (pv 2) (ae (pv 3) (ae (pv 4) ag)))))))))))))),?_⟩
  refine aQ (σ:=[some (.ref b),none,none,none,none]) rfl ?_;exists ⟨b,5,rfl,hB,by decide,by decide,λn H1 n0 n1 B1 u1=>?_⟩;obtain ⟨n,rfl⟩:=cy n0;exists ⟨λσ' H'=>(∃n:Nat,σ'=[some (.ref b),some (.int n),none,none,none]/\n<=5)/\fI H' b/\cG b H H',?_,?_⟩
  ·exists ⟨b,8,rfl,B1,by decide,by decide,λv H2 v0 v1 B2 u2=>?_⟩;exists gC (λ_=>?_) (λ_=>?_)
   ·exists ⟨⟨5,rfl,by decide⟩,B2,u1.trans u2⟩
   ·exists ⟨⟨n,rfl,by lia⟩,B2,u1.trans u2⟩
  clear n0 n1 u1 B1;rintro σ' H1 ⟨⟨n,rfl,n5⟩,B1,u1⟩;exists c9 λl0 H2 s2 n2 g2=>?_
  exists ⟨b,8,rfl,B1.same s2,by decide,by decide,λv H3 v0 v1 B3 u3=>?_⟩;have g3:=u3.other (λz=>B1.at (by rw[<- z];exact n2)) g2;obtain ⟨x,ex,mx,_⟩:=iK (xs:=[V.int 0,V.int 1,V.int 1,V.int 1,V.int 2,V.int 2,V.int 3,V.int 4]) v0 (by simpa using v1)
  obtain ⟨i,rfl,hi⟩:∃z:Nat,x=.int z/\z<=4:=by
   simp only[aA,aP,or_false] at mx;rcases mx with rfl | rfl | rfl | rfl | rfl | rfl | rfl | rfl
   ·exact ⟨0,rfl,by decide⟩
   ·exact ⟨1,rfl,by decide⟩
   ·exact ⟨1,rfl,by decide⟩
   ·exact ⟨1,rfl,by decide⟩
   ·exact ⟨2,rfl,by decide⟩
   ·exact ⟨2,rfl,by decide⟩
   ·exact ⟨3,rfl,by decide⟩
   ·exact ⟨4,rfl,by decide⟩
  exists cA (bL.of g3) ex ?_;clear ex mx g3 g2;exists c9 λl1 H4 s4 n4 g4=>?_
  exists ⟨b,8,rfl,B3.same s4,by decide,by decide,λt H5 t0 t1 B5 u5=>?_⟩;have g5:=u5.other (λz=>B3.at (by rw[<- z];exact n4)) g4;obtain ⟨x,ex,mx,_⟩:=iK (xs:=[V.int 0,V.int 1,V.int 1,V.int 1,V.int 2,V.int 2,V.int 3,V.int 4]) t0 (by simpa using t1)
  obtain ⟨o,rfl,ho⟩:∃z:Nat,x=.int z/\z<=4:=by
   simp only[aA,aP,or_false] at mx;rcases mx with rfl | rfl | rfl | rfl | rfl | rfl | rfl | rfl
   ·exact ⟨0,rfl,by decide⟩
   ·exact ⟨1,rfl,by decide⟩
   ·exact ⟨1,rfl,by decide⟩
   ·exact ⟨1,rfl,by decide⟩
   ·exact ⟨2,rfl,by decide⟩
   ·exact ⟨2,rfl,by decide⟩
   ·exact ⟨3,rfl,by decide⟩
   ·exact ⟨4,rfl,by decide⟩
  exists cA (bL.of g5) ex ?_;clear ex mx g5 g4;have u15:=(((u1.same s2).trans u3).same s4).trans u5;exists ⟨λσ' H'=>(∃i o:Nat,σ'=[some (.ref b),some (.int n),some (.int i),some (.int o),none]/\i<=4/\o<=4/\(n=5->i<=2/\o<=2))/\fI H' b/\cG b H H',?_,?_⟩
  ·exists gC (λh0=>?_) (λh0=>?_)
   ·exists ⟨⟨min i 2,min o 2,?_,by lia,by lia,λ_=>⟨by lia,by lia⟩⟩,B5,u15⟩;have e1:(if (2:Int) < (i:Int) then (2:Int) else (i:Int))=((min i 2:Nat):Int):=by split <;> lia
    have e2:(if (2:Int) < (o:Int) then (2:Int) else (o:Int))=((min o 2:Nat):Int):=by split <;> lia
    rw[<- e1,<- e2];rfl
   ·exists ⟨⟨i,o,rfl,hi,ho,λz=>absurd (decide_eq_true (show (n:Int)=5 by lia)) h0⟩,B5,u15⟩
  clear hi ho u15 B5 u5 u3 u1;rintro σ' H5 ⟨⟨i,o,rfl,hi,ho,h5⟩,B5,u5⟩;exists c9 λl2 H6 s6 n6 g6=>?_
  exists ⟨b,4,rfl,B5.same s6,by decide,by decide,λv H7 v0 v1 B7 u7=>?_⟩;have g7:=u7.other (λz=>B5.at (by rw[<- z];exact n6)) g6;obtain ⟨x,ex,mx,_⟩:=iK (xs:=[V.int 4,V.int 4,V.int 9,V.int 1000000]) v0 (by simpa using v1)
  obtain ⟨w,rfl,hw⟩:∃w:Nat,x=.int w/\(w=4\/w=9\/w=1000000):=by
   simp only[aA,aP,or_false] at mx;rcases mx with rfl | rfl | rfl | rfl
   ·exact ⟨4,rfl,.inl rfl⟩
   ·exact ⟨4,rfl,.inl rfl⟩
   ·exact ⟨9,rfl,.inr (.inl rfl)⟩
   ·exact ⟨1000000,rfl,.inr (.inr rfl)⟩
  exists cA (bL.of g7) ex ?_;have u07:=(u5.same s6).trans u7;exists ⟨λσ' H'=>(∃n:Nat,σ'=[some (.ref b),some (.int n),some (.int i),some (.int o),some (.int w)]/\n<=5/\(w=4\/w=9\/(w=1000000/\n<=2))/\(n=5->i<=2/\o<=2))/\fI H' b/\cG b H H',?_,?_⟩
  ·exists gC (λh0=>?_) (λh0=>?_)
   ·exists ⟨⟨min n 2,?_,by lia,by lia,λz=>by lia⟩,B7,u07⟩;have e1:(if (2:Int) < (n:Int) then (2:Int) else (n:Int))=((min n 2:Nat):Int):=by split <;> lia
    rw[<- e1];rfl
   ·exists ⟨⟨n,rfl,n5,?_,h5⟩,B7,u07⟩;rcases hw with z | z | z
    ·exact .inl z
    ·exact .inr (.inl z)
    ·exact absurd (decide_eq_true (show (9:Int) < (w:Int) by lia)) h0
  ·clear h5 n5;rintro σ' H8 ⟨⟨n',rfl,n5,hwn,h5⟩,B8,u8⟩;exists bW λr H9 s9 g9=>?_
   exact k r n' i o w H9 g9 n5 hi ho hwn h5 (B8.same s9) (u8.same s9)
theorem fR:a9 ["_law_bag_here","_law_n","_law_move_here","_law_at","_law_put","_law_first","_law_look"] ["_law_bag_here","_law_n"] (aI nA):=by walk_at "d"
theorem lZ (T:Txt K mg Z):cE P w K mg base fA 2 Z.uF Z.ug ["_law_bag_here","_law_n"] (An K):=by
 refine T.iG.F.ok fR (λvs H Q E h=>?_) (λcdv A outer s H vs Q E hr h=>?_)
 ·obtain ⟨b,n,rfl,_⟩:=h;rfl
 ·obtain ⟨b,n,rfl,hB,n1,n8,k⟩:=h
  refine ⟨_,(ao (j9 2 ["_law_i"] ["_law_n"] [1] fR.nd rfl rfl (cg rfl T.range (ae (pv 1) ag)) (λ_=>(aN (i:=0) (show ND9 ["_law_i","_law_n"] by decide +kernel) rfl (Or.inr rfl) (Or.inl rfl))) (λ_=>b8) (λ_=>(b7 ["_law_j"] ["_law_i"] [0] (cg rfl T.range (ae (pv 1) ag)) (λ_=>(aN (i:=0) (show ND9 ["_law_j","_law_i"] by decide +kernel))) (λ_=>b8) (λ_=>(cL (ae (fz lh (by rfl) T.int PyProof.Rows.boot_int (ae (jC eH (pv 0) (bp dG (pv 1) aj) (bG _)) ag)) (ae aj ag)))))))
   (ao (eQ (b7 ["_law_j"] ["_law_bag_here"] [0] (cg rfl T.range (ae (pv 1) ag)) (λ_=>(aN (i:=0) (show ND9 ["_law_j","_law_bag_here"] by decide +kernel))) (λ_=>b8) (λ_=>(cL (ae (bp jP (cv (aX T) hr T.aO (ae (pv 1) (ae aj ag))) aj) (ae aj ag))))) (fN (pv 2) (bp jP (pv 1) aj) set_list))
   (ao (aU (i:=3) fR.nd rfl (Or.inr rfl) (aS bw (dB (ae (bp jP (pv 1) aj) (ae (cv (aX T) hr T.aO (ae (pv 0) (ae (pv 1) ag))) ag))) (cv (aX T) hr T.aO (ae (pv 0) (ae aj ag)))))
   (ao (aU (i:=4) fR.nd rfl (Or.inl rfl) (dB (ae (b7 ["_law_j"] ["_law_at"] [3] (cg rfl T.range (ae (pv 1) ag)) (λ_=>(aN (i:=0) (show ND9 ["_law_j","_law_at"] by decide +kernel))) (λ_=>b8) (λ_=>(cL (ae (fz lh (by rfl) T.int PyProof.Rows.boot_int (ae (jC eH (pv 0) (pv 1) (bG _)) ag)) (ae aj ag))))) ag)))
   (ao (aU (i:=5) fR.nd rfl (Or.inr rfl) (aS bw (dB (ae aj (ae aj (ae (cv (aX T) hr T.aO (ae (pv 0) (ae (pv 1) ag))) ag)))) (cv (aX T) hr T.aO (ae (pv 0) (ae aj ag)))))
   (ao (aU (i:=6) fR.nd rfl (Or.inl rfl) (dB (ae (b7 ["_law_j"] ["_law_first"] [5] (cg rfl T.range (ae (pv 1) ag)) (λ_=>(aN (i:=0) (show ND9 ["_law_j","_law_first"] by decide +kernel))) (λ_=>b8) (λ_=>(cL (ae (fz lh (by rfl) T.int PyProof.Rows.boot_int (ae (jC eH (pv 0) (pv 1) (bG _)) ag)) (ae aj ag))))) ag)))
   (aw (a8 (cL (ae (pv 2) (ae (pv 4) (ae (pv 6) ag)))))))))))),?_⟩
  refine aQ (σ:=[some (.ref b),some (.int n),none,none,none,none,none]) rfl ?_
  have bit:∀{z:Int},∀y∈(List.range n).map (λ(j:Nat)=>(((if decide ((j:Int)=z)=true then 1 else 0:Int)):Rat)),Fr 1 1 y:=λy hy=>by
   obtain ⟨j,_,rfl⟩:=ay.mp hy;exact LY (by split <;> simp)
  exists ⟨by lia,by lia,?_⟩;refine fV (n:=n) (dA K H) (λ(i:Nat)=>(List.range n).map λ(j:Nat)=>(((if decide ((j:Int)=(i:Int)+1)=true then 1 else 0:Int)):Rat)) (by lia) (λa b=>a.same b) ?_ ?_
  ·rintro i Hb NY NN hi sa k1;exists ⟨by lia,by lia,?_⟩;refine fV (n:=n) (bQ K) (λ(j:Nat)=>(((if decide ((j:Int)=(i:Int)+1)=true then 1 else 0:Int)):Rat)) (by lia) (λa b=>a.same b) ?_ ?_
   ·rintro j Hz NY2 NN2 hj sz k2;exists bW λt Hy sy gy=>?_
    exact k2 _ _ sy (bQ.mk gy rfl)
   ·rintro ys Hz t ht sz g pr nx;exact k1 _ _ sz ⟨t,rfl,sa.none ht,ys,g,pr⟩
  rintro ys H1 mm hm s1 g1 pr1 nx1;have G1:bR K H H1 mm ((List.range n).map λ(i:Nat)=>(List.range n).map λ(j:Nat)=>(((if decide ((j:Int)=(i:Int)+1)=true then 1 else 0:Int)):Rat)):=⟨ys,g1,pr1,kW nx1⟩;clear g1 pr1 nx1;have B1:=hB.same s1;have mb:mm≠b:=λz=>hB.at (by rw[<- z];exact hm)
  obtain ⟨q0,I0,xq,gq0⟩:=hB.inner;have mq:mm≠q0:=λz=>by rw[<- z,hm] at gq0;cases gq0
  exists ⟨by lia,by lia,?_⟩;refine tj (n:=n) (b:=b) (bQ K) (Fr 1 1) B1 (by lia) (λa u B=>a.upto u B) ?_ ?_
  ·rintro j Ha NY NN hj ua Ba k1;exists ⟨b,3,rfl,Ba,by decide,by decide,λv Hb v0 v1 Bb ub=>?_⟩;exists bW λt Hc sc gc=>?_
   exact k1 _ ((v - 1:Int):Rat) _ (ub.same sc) (Bb.same sc) (Fr.int (by lia)) (bQ.mk gc rfl)
  rintro ys2 cs H2 q2 hq2 u2 B2 g2 lc hc pr2 _;have u02:=(s1.upto (p:=b)).trans u2;have nq2:H q2=none:=s1.none hq2;obtain ⟨us,gu,pu⟩:=(G1.upto u2 B1 mb hB.at).toE;have lu:=pu.length;rw[ak,cm] at lu
  have q2m:q2≠mm:=λz=>by
   obtain ⟨_,gg,_⟩:=id G1;rw[z,gg] at hq2;cases hq2
  walk_at "w";rw[show ((n:Int) - 1)=((n - 1:Nat):Int) by lia];refine d6 gu (eN (by lia)) rfl ?_;have G3:bR K H (upd H2 mm (.lst (us.set (n - 1) (.ref q2)))) mm (((List.range n).map λ(i:Nat)=>(List.range n).map λ(j:Nat)=>(((if decide ((j:Int)=(i:Int)+1)=true then 1 else 0:Int)):Rat)).set (n - 1) cs):=bR.ofE aJ (iV (Paired.imp' (λ_ _ z=>E2.updL z gu (λq h=>h.2)) pu) (n - 1) ⟨q2,rfl,⟨nq2,q2m⟩,cx.updL ⟨ys2,g2,pr2⟩ gu q2m⟩) (λq h=>h.1) (λq h=>h.2);have B3:fI (upd H2 mm (.lst (us.set (n - 1) (.ref q2)))) b:=B2.upd (u02.2 _ I0) mb mq;have u03:cG b H (upd H2 mm (.lst (us.set (n - 1) (.ref q2)))):=u02.after hm;obtain ⟨mv,emv⟩:∃mv,mv=((List.range n).map λ(i:Nat)=>(List.range n).map λ(j:Nat)=>(((if decide ((j:Int)=(i:Int)+1)=true then 1 else 0:Int)):Rat)).set (n - 1) cs:=⟨_,rfl⟩;have lmv:mv.length=n:=by rw[emv,dM,ak,cm]
  have hmv:∀xs∈mv,xs.length=n/\∀y∈xs,Fr 1 1 y:=λxs hx=>by
   rw[emv] at hx;rcases bZ hx with hx | rfl
   ·obtain ⟨i,_,rfl⟩:=ay.mp hx;exact ⟨by rw[ak,cm],bit⟩
   ·exact ⟨lc,hc⟩
  rw[<- emv] at G3;generalize upd H2 mm (.lst (us.set (n - 1) (.ref q2)))=H3 at G3 B3 u03 ⊢;clear emv pu gu G1 u2 pr2 g2 B2;exists ⟨b,n,rfl,B3,by lia,by lia,λa1 H4 a10 a11 B4 u4=>?_⟩;exists c9 λl1 H5 s5 nl1 g5=>?_
  exists ⟨b,2,rfl,B4.same s5,by decide,by decide,λv H6 v0 v1 B6 u6=>?_⟩;have g6:=u6.other (λz=>B4.at (by rw[<- z];exact nl1)) g5;obtain ⟨x,ex,mx,_⟩:=iK (xs:=[V.int ((n:Int) - 1),V.int a1]) v0 (by simpa using v1)
  obtain ⟨at',rfl⟩:∃a:Int,x=.int a:=by
   simp only[aA,aP,or_false] at mx;rcases mx with rfl | rfl
   ·exact ⟨_,rfl⟩
   ·exact ⟨_,rfl⟩
  exists cA (bL.of g6) ex ?_;have u36:=(u4.same s5).trans u6;have G6:=G3.upto u36 B3 mb hB.at;have u06:=u03.trans u36;clear ex mx g6 g5 G3 u4 u6;exists ⟨by lia,by lia,?_⟩;refine fV (n:=n) (bQ K) (λ(j:Nat)=>(((if decide ((j:Int)=at')=true then 1 else 0:Int)):Rat)) (by lia) (λa b=>a.same b) ?_ ?_
  ·rintro j Hz NY2 NN2 hj sz k2;exists bW λt Hy sy gy=>?_
   exact k2 _ _ sy (bQ.mk gy rfl)
  rintro ys7 H7 q7 hq7 s7 g7 pr7 _;have R7:cx K H7 q7 _:=⟨ys7,g7,pr7⟩;exists c9 λp8 H8 s8 n8' g8=>?_
  have s68:=s7.trans s8;have q78:q7≠p8:=λz=>by rw[z,n8'] at g7;cases g7
  have np8:H p8=none:=u06.none B6 (s7.none n8');have nq7:H q7=none:=u06.none B6 hq7
  have GP:bR K H H8 p8 [(List.range n).map λ(j:Nat)=>(((if decide ((j:Int)=at')=true then 1 else 0:Int)):Rat)]:=⟨_,g8,.cons ⟨q7,rfl,nq7,R7.same s8⟩ .nil,λz=>by
   rw[cp] at z;cases z;exact q78 rfl⟩
  have B8:=B6.same s68;have u08:=u06.same s68;have G8:=G6.same s68;have pb:p8≠b:=λz=>hB.at (by rw[<- z];exact np8)
  exists ⟨b,n,rfl,B8,by lia,by lia,λa2 H9 a20 a21 B9 u9=>?_⟩;exists c9 λl2 Ha sa nl2 ga=>?_
  exists ⟨b,3,rfl,B9.same sa,by decide,by decide,λv' Hb v0' v1' Bb ub=>?_⟩;have gb:=ub.other (λz=>B9.at (by rw[<- z];exact nl2)) ga;obtain ⟨x,ex,mx,_⟩:=iK (xs:=[V.int 0,V.int 0,V.int a2]) v0' (by simpa using v1')
  obtain ⟨fi,rfl⟩:∃a:Int,x=.int a:=by
   simp only[aA,aP,or_false] at mx;rcases mx with rfl | rfl | rfl
   ·exact ⟨_,rfl⟩
   ·exact ⟨_,rfl⟩
   ·exact ⟨_,rfl⟩
  exists cA (bL.of gb) ex ?_;have u8b:=(u9.same sa).trans ub;have Gb:=G8.upto u8b B8 mb hB.at;have GPb:=GP.upto u8b B8 pb hB.at;have u0b:=u08.trans u8b;clear ex mx gb ga G8 GP u9 ub;exists ⟨by lia,by lia,?_⟩;refine fV (n:=n) (bQ K) (λ(j:Nat)=>(((if decide ((j:Int)=fi)=true then 1 else 0:Int)):Rat)) (by lia) (λa b=>a.same b) ?_ ?_
  ·rintro j Hz NY2 NN2 hj sz k2;exists bW λt Hy sy gy=>?_
   exact k2 _ _ sy (bQ.mk gy rfl)
  rintro ysc Hc qc hqc sc gc prc _;have Rc:cx K Hc qc _:=⟨ysc,gc,prc⟩;exists c9 λpd Hd sd nd gd=>?_
  have sbd:=sc.trans sd;have qcd:qc≠pd:=λz=>by rw[z,nd] at gc;cases gc
  have npd:H pd=none:=u0b.none Bb (sc.none nd);have nqc:H qc=none:=u0b.none Bb hqc
  have GL:bR K H Hd pd [(List.range n).map λ(j:Nat)=>(((if decide ((j:Int)=fi)=true then 1 else 0:Int)):Rat)]:=⟨_,gd,.cons ⟨qc,rfl,nqc,Rc.same sd⟩ .nil,λz=>by
   rw[cp] at z;cases z;exact qcd rfl⟩
  exists bW λr He se ge=>?_
  have sbe:=sbd.trans se;refine k r mv _ _ He ⟨mm,p8,pd,ge,hm,np8,npd,Gb.same sbe,GPb.same sbe,GL.same se⟩ lmv rfl rfl ⟨by lia,by simp,by simp,λxs hx=>by rw[(hmv xs hx).1,lmv],λxs hx=>?_,λxs hx=>?_⟩ (λxs hx=>(hmv xs hx).2) (λxs hx=>?_) (λxs hx=>?_) (Bb.same sbe) (u0b.same sbe)
  ·rw[cp.mp hx,ak,cm,lmv]
  ·rw[cp.mp hx,ak,cm,lmv]
  ·rw[cp.mp hx];exact bit
  ·rw[cp.mp hx];exact bit
theorem j7:a9 ["_law_top","_law_bottom","_law_one","_law_other"] ["_law_top","_law_bottom"] (aI pA):=by walk_at "d"
theorem gZ (T:Txt K mg Z):cE P w K mg base fA 1 Z.xc Z.wQ ["_law_top","_law_bottom"] Km:=by
 refine T.eY.F.ok j7 (λvs H Q E h=>?_) (λcdv A outer s H vs Q E hr h=>?_)
 ·obtain ⟨t,b,rfl,_⟩:=h;rfl
 ·obtain ⟨t,b,rfl,hb,hs,k⟩:=h
  refine ⟨_,(ao (aU (i:=2) j7.nd rfl (Or.inl rfl) (bO qQ (by rfl) T.abs PyProof.Rows.boot_abs (ae (pv 0) ag)))
   (ao (aU (i:=3) j7.nd rfl (Or.inl rfl) (pv 1))
   (ao (AG PassesOwn.never (bu yd (pv 2) aj (bG _))
    (aw (FK (i:=2) (j:=3) rfl j7.nd rfl rfl (by decide) rfl rfl (ae (bp jQ (pv 3) (pv 2)) (ae (pv 2) ag)) rfl)))
   (aw (a8 (cL (ae (bp fO (pv 0) (pv 3)) (ae (bp fO (pv 1) (pv 3)) ag)))))))),?_⟩
  refine aQ (σ:=[some (.int t),some (.int b),none,none]) rfl ?_;walk_at "w"
  refine CP (λσ' H'=>∃(u v:Int),σ'=[some (.int t),some (.int b),some (.int u),some (.int v)]/\H'=H/\0<=u/\0 < v/\Int.gcd u v=Int.gcd t b) (λσ' _=>match σ' with | [_,_,some (.int u),_]=>u.natAbs | _=>0) ⟨_,b,rfl,rfl,by split <;> lia,hb,by
   split
   ·rw[Int.neg_gcd]
   ·rfl⟩ ?_
  rintro σ' H' ⟨u,v,rfl,rfl,hu,hv,hg⟩;exists gC (λh=>?_) (λh=>?_)
  ·have hu0:u≠0:=λz=>by subst z;simp at h
   exists eC (show (0:Int) < u by lia) ?_;walk_at "w";have h1:=ic v hu0;have h2:=ff v (show 0 < u by lia);exact ⟨⟨v % u,u,rfl,rfl,h1,by lia,by rw[gQ,Gj,gQ];exact hg⟩,by show (v % u).natAbs < u.natAbs;lia⟩
  ·have hu0:u=0:=by
    by_cases z:u=0
    ·exact z
    ·exfalso;apply h;simp [z]
   subst hu0
   have e:v=g t b:=by
    unfold g;rw[<- hg,Int.gcd_zero_left]
    lia
   have hgs:Sz 8999 v:=hs.le (by
    rw[e];have h1:(g t b).natAbs=Int.gcd t b:=by unfold g;simp
    rw[h1];exact jx (by lia) (by have:=eB (a:=t) (b:=b);exact fv.mpr this |> λz=>by simpa using z))
   exists eC (show ko _ _ from ⟨by lia,hgs⟩) ?_;exists eC (show ko _ _ from ⟨by lia,hgs⟩) ?_;exists bW λr H' s' h'=>?_
   rw[bP _ (by lia),bP _ (by lia),e] at h';exact k r H' s' h'
theorem Aw:a9 ["_law_one","_law_other"] ["_law_one","_law_other"] (aI ph):=by walk_at "d"
theorem dC (T:Txt K mg Z):cE P w K mg base fA 2 Z.w5 Z.wN ["_law_one","_law_other"] (lH K (λx y=>x+y)):=by
 refine T.c6.F.ok Aw (λvs H Q E h=>?_) (λcdv A outer s H vs Q E hr h=>?_)
 ·obtain ⟨p,q,a,b,c,d,rfl,hp,hq,hb,hd,sa,sb,sc,sd,k⟩:=DV h;rfl
 ·obtain ⟨p,q,a,b,c,d,rfl,hp,hq,hb,hd,sa,sb,sc,sd,k⟩:=DV h;refine ⟨_,(aw (a8 (cv (gZ T) hr T.eY (ae (bp dG (bp cK (aS bC (pv 0) aj) (aS bC (pv 1) aj)) (bp cK (aS bC (pv 1) aj) (aS bC (pv 0) aj))) (ae (bp cK (aS bC (pv 0) aj) (aS bC (pv 1) aj)) ag))))),?_⟩;refine aQ (σ:=[some (.ref p),some (.ref q)]) rfl ?_;have hbd:0 < b*d:=gI hb hd;have sbd:Sz 8999 (b*d):=(sb.mul sd).mono (by decide);exists eC (show fe _ _ from .inr ⟨_,_,sa,sd,by decide⟩) ?_;exists eC (show fe _ _ from .inr ⟨_,_,sc,sb,by decide⟩) ?_;exists eC (show fe _ _ from .inr ⟨_,_,sb,sd,by decide⟩) ?_;walk_at "w";exists ⟨_,_,rfl,hbd,sbd,k⟩
theorem zb:a9 ["_law_one","_law_other"] ["_law_one","_law_other"] (aI ng):=by walk_at "d"
theorem jD (T:Txt K mg Z):cE P w K mg base fA 3 Z.uB Z.t8 ["_law_one","_law_other"] (Aj K):=by
 refine T.fU.F.ok zb (λvs H Q E h=>?_) (λcdv A outer s H vs Q E hr h=>?_)
 ·obtain ⟨p,q,xs,ys,rfl,_⟩:=h;rfl
 ·obtain ⟨p,q,xs,ys,rfl,hp,hq,hl,hz,h1,h2,kk⟩:=h;refine ⟨_,(aw (a8 (b7 ["_law_k"] ["_law_one","_law_other"] [0,1] (cg rfl T.range (ae (bO bD (by rfl) T.len bB (ae (pv 0) ag)) ag)) (λ_=>(aN (i:=0) (show ND9 ["_law_k","_law_one","_law_other"] by decide +kernel))) (λ_=>b8) (λ_=>(cv (dC T) hr T.c6 (ae (aS (kZ K (by rfl)) (pv 1) (pv 0)) (ae (aS (kZ K (by rfl)) (pv 2) (pv 0)) ag))))))),?_⟩;refine aQ (σ:=[some (.ref p),some (.ref q)]) rfl ?_;obtain ⟨us,gu,qu⟩:=id hp;obtain ⟨ws,gw,qw⟩:=id hq;have lu:=qu.length;exists ⟨_,_,rfl,.inl (bL.of gu),?_⟩;exists ⟨by lia,by lia,?_⟩;refine fV (n:=us.length) (bQ K) (λi=>xs.getD i 0+ys.getD i 0) (by lia) (λa b=>a.same b) ?_ ?_
  ·rintro i H' NY NN hi s k1;have ix:i < xs.length:=by lia
   have iy:i < ys.length:=by lia
   obtain ⟨vx,ex,nx⟩:=Dz (Paired.imp' (λ_ _ z=>z.same s) qu) ix;obtain ⟨vy,ey,ny⟩:=Dz (Paired.imp' (λ_ _ z=>z.same s) qw) iy;exists cA (bL.of (s _ _ gu)) ex ?_;exists cA (bL.of (s _ _ gw)) ey ?_;exists ⟨_,_,_,_,rfl,nx,ny,h1 _ (getD_mem ix),h2 _ (getD_mem iy),λr3 H3 s3 n3=>k1 _ _ s3 n3⟩
  ·rintro ys' H' l hl' s g pr nx;exact kk l H' hl' s ⟨ys',g,by rw[xJ (by lia)];rw[<- lu] at pr;exact pr⟩
theorem za:a9 ["_law_one","_law_other"] ["_law_one","_law_other"] (aI m9):=by walk_at "d"
theorem d7 (T:Txt K mg Z):cE P w K mg base fA 2 Z.uy Z.tZ ["_law_one","_law_other"] (lH K (λx y=>x*y)):=by
 refine T.dy.F.ok za (λvs H Q E h=>?_) (λcdv A outer s H vs Q E hr h=>?_)
 ·obtain ⟨p,q,a,b,c,d,rfl,hp,hq,hb,hd,sa,sb,sc,sd,k⟩:=Dt h;rfl
 ·obtain ⟨p,q,a,b,c,d,rfl,hp,hq,hb,hd,sa,sb,sc,sd,k⟩:=Dt h;refine ⟨_,(aw (a8 (cv (gZ T) hr T.eY (ae (bp cK (aS bC (pv 0) aj) (aS bC (pv 1) aj)) (ae (bp cK (aS bC (pv 0) aj) (aS bC (pv 1) aj)) ag))))),?_⟩;refine aQ (σ:=[some (.ref p),some (.ref q)]) rfl ?_;have hbd:0 < b*d:=gI hb hd;have sbd:Sz 8999 (b*d):=(sb.mul sd).mono (by decide);exists eC (show fe _ _ from .inr ⟨_,_,sa,sc,by decide⟩) ?_;exists eC (show fe _ _ from .inr ⟨_,_,sb,sd,by decide⟩) ?_;walk_at "w";exists ⟨_,_,rfl,hbd,sbd,k⟩
theorem BO:a9 ["_law_by_here","_law_row_here"] ["_law_by_here","_law_row_here"] (aI rQ):=by walk_at "d"
theorem pK (T:Txt K mg Z):cE P w K mg base fA 3 Z.yG Z.yt ["_law_by_here","_law_row_here"] (Fs K):=by
 refine T.jW.F.ok BO (λvs H Q E h=>?_) (λcdv A outer s H vs Q E hr h=>?_)
 ·obtain ⟨u,q,c,ys,rfl,_⟩:=h;rfl
 ·obtain ⟨u,q,c,ys,rfl,hc,sc,hq,hz,h2,kk⟩:=h;refine ⟨_,(aw (a8 (b7 ["_law_one"] ["_law_by_here"] [0] (cw (pv 1)) (λ_=>(aN (i:=0) (show ND9 ["_law_one","_law_by_here"] by decide +kernel))) (λ_=>b8) (λ_=>(cv (d7 T) hr T.dy (ae (pv 1) (ae (pv 0) ag))))))),?_⟩;refine aQ (σ:=[some u,some (.ref q)]) rfl ?_;obtain ⟨us,gu,qu⟩:=id hq;exists ⟨⟨_,bL.of gu⟩,?_⟩;refine dd (K:=K) (F:=bQ K) (bQ K) (λy=>c*y) gu qu hz (λa b=>a.same b) (λa b=>a.same b) ?_ ?_
  ·rintro i y x H' NY NN en s hx k;exists ⟨_,_,_,_,rfl,hc.same s,hx,sc,h2 y (ar en),λr H2 s2 h2'=>k _ _ s2 h2'⟩
  ·rintro ys' H' r hr s g pr nx;exact kk r H' hr s ⟨ys',g,pr⟩
theorem dw:a9 ["_law_bag_here","_law_move_here","_law_put","_law_look","_law_n","_law_turn","_law_i","_law_j","_law_by_here","_law_less_here","_law_row_here"] ["_law_bag_here","_law_move_here","_law_put","_law_look"] (aI lS):=by walk_at "d"
theorem oM (T:Txt K mg Z):cE P w K mg base fA 4 Z.qZ Z.qL ["_law_bag_here","_law_move_here","_law_put","_law_look"] (xV K):=by
 refine T.jd.F.ok dw (λvs H Q E h=>?_) (λcdv A outer s H vs Q E hr h=>?_)
 ·obtain ⟨b,m,p,l,q0,n,WV,μ,A,us,ws,vs,rfl,_⟩:=h;rfl
 ·obtain ⟨b,m,p,l,q0,n,WV,μ,A,us,ws,vs,rfl,MA,X,n8,i4,o4,M0,M1,⟨M,eM⟩,V1,hA,k⟩:=h
  refine ⟨_,(ao (aU (i:=4) dw.nd rfl (Or.inl rfl) (bO bD (by rfl) T.len bB (ae (pv 1) ag)))
   (ao (c5 (PW.pt (tH (bu oK (pv 4) aj (bG _)) (nI (bu eH (cv (aX T) hr T.aO (ae (pv 0) (ae aj ag))) aj (bG _))))) (aw (a8 (cL (ae (pv 1) (ae (pv 2) (ae (pv 3) ag)))))) bT)
   (ao (dU PassesOwn.never rfl (cg rfl T.range (ae (bp dG aj (cv (aX T) hr T.aO (ae (pv 0) (ae aj ag)))) ag)) (aN (i:=5) dw.nd)
    (ao (aU (i:=6) dw.nd rfl (Or.inl rfl) (cv (aX T) hr T.aO (ae (pv 0) (ae (pv 4) ag))))
   (ao (aU (i:=7) dw.nd rfl (Or.inl rfl) (bp jQ (bp dG (bp dG (pv 6) aj) (cv (aX T) hr T.aO (ae (pv 0) (ae (bp jP (pv 4) aj) ag)))) (pv 4)))
   (ao (aU (i:=8) dw.nd rfl (Or.inl rfl) (cL (ae (aS bw (dB (ae aj (ae (ya rn aj) (ae aj (ae (ya rn aj) ag))))) (cv (aX T) hr T.aO (ae (pv 0) (ae aj ag)))) (ae aj ag))))
   (ao (aU (i:=9) dw.nd rfl (Or.inl rfl) (cL (ae (bp jP aj (aS bC (pv 8) aj)) (ae aj ag))))
   (ao (eQ (cv (jD T) hr T.fU (ae (aS bw (pv 1) (pv 6)) (ae (cv (pK T) hr T.jW (ae (pv 8) (ae (aS bw (pv 1) (pv 7)) ag))) ag))) (fN (pv 1) (pv 6) set_list))
   (ao (dU PassesOwn.never rfl (cw (bp jR (pv 1) (pv 3))) (aN (i:=10) dw.nd)
    (aw (eQ (cv (dC T) hr T.c6 (ae (aS bw (pv 10) (pv 7)) (ae (cv (d7 T) hr T.dy (ae (pv 9) (ae (aS bw (pv 10) (pv 6)) ag))) ag))) (fN (pv 10) (pv 7) set_list))))
   (aw (dU PassesOwn.never rfl (cw (pv 2)) (aN (i:=10) dw.nd)
    (aw (eQ (cv (dC T) hr T.c6 (ae (aS bw (pv 10) (pv 6)) (ae (cv (d7 T) hr T.dy (ae (pv 8) (ae (aS bw (pv 10) (pv 7)) ag))) ag))) (fN (pv 10) (pv 6) set_list))))))))))))
   (aw (a8 (cL (ae (pv 1) (ae (pv 2) (ae (pv 3) ag))))))))),?_⟩
  refine aQ (σ:=[some (.ref b),some (.ref m),some (.ref p),some (.ref l),none,none,none,none,none,none,none]) rfl ?_;have done:∀r us' H' t,t<=3->H' r=some (.tup [.ref m,.ref p,.ref l])->iN K A H' n (λx=>Fr (μ x) (9^t*WV)) m p l b q0 us' ws vs->fZ A b m H H'->Q (.ref r) H':=λr us' H' t ht g x kp=>k r us' H' g (x.weak λ_ _ y h=>h.mono (aG _ (au (by decide) ht))) kp
  have X0:iN K A H n (λx=>Fr (μ x) (9^0*WV)) m p l b q0 us ws vs:=X.weak λ_ _ y h=>h.mono (by simp)
  clear X k;have gu:=X0.gm;have lu:=X0.lm;exists ⟨_,_,rfl,.inl (bL.of gu),?_⟩;rw[lu];clear gu lu;have kp0:fZ A b m H H:=λ_ _ h _ _ _=>h
  exists gC (λh0=>?_) (λh0=>?_)
  ·exists bW λr H' s' g'=>?_
   exact done r us H' 0 (by decide) g' (X0.same s') (kp0.same s')
  have n2:2<=n:=by
   rcases gN n 2 with z | z
   ·exact absurd (decide_eq_true (show (n:Int) < 2 by lia)) h0
   ·exact z
  exists ⟨b,2,rfl,X0.bag,by decide,by decide,λv H1 v0 v1 B1 u1=>?_⟩;have X1:=X0.upto MA u1 B1;have kp1:=kp0.upto u1;exists gC (λh1=>?_) (λh1=>?_)
  ·exists bW λr H' s' g'=>?_
   exact done r us H' 0 (by decide) g' (X1.same s') (kp1.same s')
  exists ⟨b,3,rfl,B1,by decide,by decide,λc H2 c0 c1 B2 u2=>?_⟩;have X2:=X1.upto MA u2 B2;have kp2:=kp1.upto u2;clear X0 X1 kp0 kp1 u1 u2 B1;exists ⟨by lia,by lia,?_⟩;refine dW (n:=(1+c).toNat) (λt σ' H'=>∃(x1 x2 x3 x4 x5 x6:Option V) (us:List V),σ'=[some (.ref b),some (.ref m),some (.ref p),some (.ref l),some (.int n),x1,x2,x3,x4,x5,x6]/\iN K A H' n (λx=>Fr (μ x) (9^t*WV)) m p l b q0 us ws vs/\fZ A b m H H') ⟨none,none,none,none,none,none,us,rfl,X2,kp2⟩ ?_ ?_
  ·rintro t σ' H' ht ⟨x1,x2,x3,x4,x5,x6,us,rfl,X,kp⟩;have t3:t<=2:=by lia
   exists ⟨b,n,rfl,X.bag,by lia,by lia,λii Ha i0 i1 Ba ua=>?_⟩;obtain ⟨ii,rfl⟩:=cy i0;have Xa:=X.upto MA ua Ba;have kpa:=kp.upto ua;exists ⟨b,_,rfl,Ba,by lia,by lia,λd Hb d0 d1 Bb ub=>?_⟩;have Xb:=Xa.upto MA ub Bb;have kpb:=kpa.upto ub;exists eC (show (0:Int) < n by lia) ?_;have j0:=ic ((ii:Int)+1+d) (show (n:Int)≠0 by lia);have j1:=ff ((ii:Int)+1+d) (show (0:Int) < n by lia);generalize ((ii:Int)+1+d) % (n:Int)=jj at j0 j1 ⊢;obtain ⟨jj,rfl⟩:=cy j0;exists c9 λl0 Hc sc nc gc=>?_
   exists ⟨b,4,rfl,Bb.same sc,by decide,by decide,λv' Hd v0' v1' Bd ud=>?_⟩;have gd:=ud.other (λz=>Bb.at (by rw[<- z];exact nc)) gc;obtain ⟨x,ex,mx,_⟩:=iK (xs:=[V.int 1,V.int (-1),V.int 2,V.int (-2)]) v0' (by simpa using v1')
   obtain ⟨z,rfl,hz⟩:∃z:Int,x=.int z/\z.natAbs<=2:=by
    simp only[aA,aP,or_false] at mx;rcases mx with rfl | rfl | rfl | rfl
    ·exact ⟨1,rfl,by decide⟩
    ·exact ⟨-1,rfl,by decide⟩
    ·exact ⟨2,rfl,by decide⟩
    ·exact ⟨-2,rfl,by decide⟩
   have Xd:=(Xb.same sc).upto MA ud Bd;have kpd:=(kpb.same sc).upto ud;exists cA (bL.of gd) ex ?_;exists bW λbt He se ge=>?_
   exists bW λlt Hf sf gf=>?_
   have Xf:=(Xd.same se).same sf;have kpf:=(kpd.same se).same sf;have nb:bQ K Hf ((z:Int):Rat) (.ref bt):=bQ.mk (sf _ _ ge) rfl;have nl:bQ K Hf ((0 - z:Int):Rat) (.ref lt):=bQ.mk gf rfl;clear X Xa Xb Xd kp kpa kpb kpd ua ub ud sc gc gd ex mx ge gf se sf Ba Bb Bd nc;have gu:=Xf.gm;have lu:=Xf.lm
   have ru:∀x∈us,eK K A Hf n (Fr M (9^t*WV)) x:=λx hx=>by
    have:=Xf.row x (by simp [hx]);rwa [eM x (Xf.apart.1 x hx).1 (Xf.apart.1 x hx).2] at this
   have hM:0 < M/\M<=2^800:=by
    have hx:us[ii]'(by lia)∈us:=aK _;have:=eM _ (Xf.apart.1 _ hx).1 (Xf.apart.1 _ hx).2;rw[<- this];exact ⟨M0 _,M1 _⟩
   have e1:us[ii]?=some (us[ii]'(by lia)):=by simp
   have e2:us[jj]?=some (us[jj]'(by lia)):=by simp
   obtain ⟨q1,z1,qs1,w1,a1,g1,k1,p1,l1,c1⟩:=(ru _ (ar e1)).at;obtain ⟨q2,z2,qs2,w2,a2,g2,k2,p2,l2,c2⟩:=(ru _ (ar e2)).at;rw[w1] at e1;rw[w2] at e2;generalize eW:9^t*WV=W at *
   have W9:9*W<=2^140:=by rw[<- eW];exact IS (by lia) V1 (by decide)
   have sz9M:∀{x:Rat} {U:Nat},U<=9*W->Fr M U x->gL x:=λhU h=>DG hM.1 hM.2 (ai hU W9) h
   have sz9:∀{x:Rat} {U:Nat} {v:V},U<=9*W->Fr (μ v) U x->gL x:=λhU h=>DG (M0 _) (M1 _) (ai hU W9) h
   exists cA (bL.of gu) (fF e1) ?_;exists cA (bL.of gu) (fF e2) ?_;exists ⟨_,q2,_,qs2,rfl,nb,yS (by lia),⟨z2,g2,p2⟩,by lia,λy hy=>sz9M (by lia) (c2 y hy),λr1 Hg n1 sg R1=>?_⟩;exists ⟨q1,r1,qs1,_,rfl,⟨z1,sg _ _ g1,Paired.imp' (λ_ _ y=>y.same sg) p1⟩,R1,by rw[ak,l1,l2],by lia,λy hy=>sz9M (by lia) (c1 y hy),λy hy=>?_,λr2 Hh n2' sh R2=>?_⟩
   ·obtain ⟨y',hy',rfl⟩:=ay.mp hy;exact vh hz (c2 y' hy') hM.1 hM.2 (by lia)
   have sfh:=sg.trans sh
   have new:V.ref r2∉us++vs++ws:=λz=>by
    obtain ⟨q',_,_,e',_,g',_⟩:=((Xf.same sg).row _ z).at;cases e';rw[n2'] at g';cases g'
   have Xh:=(Xf.same sfh).weak (C':=λx y=>(x∈ws->Fr (μ x) W y)/\Fr (μ x) (3*W) y) λx _ y h=>⟨λ_=>h,h.mono (by lia)⟩
   have kph:=kpf.same sfh;have guh:=sfh _ _ gu;have ar2:A r2:=(kpf.same sg).new hA (Xf.same sg).bag (by rw[sg _ _ gu];simp) n2'
   have rp2:eK K A Hh n (λy=>(V.ref r2∈ws->Fr (μ (.ref r2)) W y)/\Fr (μ (.ref r2)) (3*W) y) (.ref r2):=by
    rw[eM (.ref r2) (λz=>new (az.mpr (.inr z))) (λz=>new (az.mpr (.inl (az.mpr (.inr z)))))];refine ⟨r2,_,rfl,ar2,R2,by rw[bg,ak];lia,λy hy=>⟨λz=>absurd (az.mpr (.inr z)) new,?_⟩⟩;obtain ⟨j',hj',e⟩:=bM hy;rw[fH,lD] at e;rw[<- e];exact zG hz (c1 _ (aK _)) (c2 _ (aK _))
   exists d6 guh (eN (by lia)) rfl ?_;have Xi:=Xh.set MA rp2 new ii;have kpi:=kph.upd (o:=.lst (us.set ii (.ref r2))) (q:=m) (.inr rfl);have nli:bQ K (upd Hh m (.lst (us.set ii (.ref r2)))) ((0 - z:Int):Rat) (.ref lt):=(nl.same sfh).updL guh;have nbi:bQ K (upd Hh m (.lst (us.set ii (.ref r2)))) ((z:Int):Rat) (.ref bt):=(nb.same sfh).updL guh;generalize upd Hh m (.lst (us.set ii (.ref r2)))=Hi at Xi kpi nli nbi ⊢;generalize us.set ii (.ref r2)=um at Xi;clear nb nl Xf kpf gu ru e1 e2 g1 p1 g2 p2 R1 R2 Xh kph guh rp2 sg sh sfh new;have gm:=Xi.gm;have lm:=Xi.lm;have gl:=Xi.gl;have nd:=Xi.nd;obtain ⟨nd1,nd2,nd3⟩:=dc.mp nd;exists lV gm gl (bf (bK (by lia))) λcl Hj sj nj gj=>?_
   have kpj:=kpi.same sj
   have rows:∀x∈um++vs,∀q,x=V.ref q->q≠cl:=λx hx q e y=>by
    obtain ⟨q',zs,_,e',_,g',_⟩:=(Xi.row x (az.mpr (.inl hx))).at;rw[e] at e';cases e';rw[y,nj] at g';cases g'
   have Xj:=(Xi.same sj).weak (C':=λx y=>(x∈ws->Fr (μ x) W y)/\(x∈(um++vs).drop 0->Fr (μ x) (3*W) y)/\Fr (μ x) (9*W) y) λx _ y h=>⟨h.1,λ_=>h.2,h.2.mono (by lia)⟩
   have lj:bQ K Hj ((0 - z:Int):Rat) (.ref lt):=nli.same sj;have bj:bQ K Hj ((z:Int):Rat) (.ref bt):=nbi.same sj;clear Xi kpi nli nbi;refine ⟨_,rfl,⟨_,bL.of gj⟩,?_⟩;refine iH (K:=K) (a:=cl) (xs:=um++vs) (λs σ' H'=>∃x6:Option V,σ'=[some (.ref b),some (.ref m),some (.ref p),some (.ref l),some (.int n),some (.int t),some (.int ii),some (.int jj),some (.ref bt),some (.ref lt),x6]/\iN K A H' n (λx y=>(x∈ws->Fr (μ x) W y)/\(x∈(um++vs).drop s->Fr (μ x) (3*W) y)/\Fr (μ x) (9*W) y) m p l b q0 um ws vs/\fZ A b m H H'/\H' cl=some (.lst (um++vs))/\bQ K H' ((0 - z:Int):Rat) (.ref lt)/\bQ K H' ((z:Int):Rat) (.ref bt)) ⟨_,rfl,Xj,kpj,gj,lj,bj⟩ (λs σ' H' _ ⟨_,_,_,_,e,_⟩=>bL.of e) ?_ ?_
   ·rintro s x σ' Hk hx ⟨y6,rfl,Xk,kpk,gk,lk,bk⟩;have hs:s < (um++vs).length:=(aV.mp hx).1;have mx:=ar hx
    have xd:x∈(um++vs).drop s:=by
     rw[dO hs,(aV.mp hx).2];exact .head _
    have xd2:x∉(um++vs).drop (s+1):=λz=>by
     have:=nd1.sublist (List.drop_sublist s _);rw[dO hs,dJ,(aV.mp hx).2] at this;exact this.1 z
    have xw:x∉ws:=λz=>nd3 x mx x z rfl
    have rx:=Xk.row x (az.mpr (.inl mx));obtain ⟨q,zs,qs,rfl,aq,gq,lq,pq,lq2,cq⟩:=rx.at;have qcl:=rows _ mx q rfl;obtain ⟨vj,ej,nj'⟩:=Dz pq (j:=jj) (by lia);obtain ⟨vi,ei,ni'⟩:=Dz pq (j:=ii) (by lia);have cj:=(cq _ (getD_mem (xs:=qs) (i:=jj) (by lia))).2.1 xd;have ci:=(cq _ (getD_mem (xs:=qs) (i:=ii) (by lia))).2.1 xd;exists cA (bL.of gq) ej ?_;exists cA (bL.of gq) ei ?_;exists ⟨_,_,_,_,rfl,lk,ni',yS (by lia),sz9 (by lia) ci,λr3 Hl sl n3=>?_⟩;exists ⟨_,_,_,_,rfl,nj'.same sl,n3,sz9 (by lia) cj,vh (by lia) ci (M0 _) (M1 _) (by lia),λr4 Hm sm n4=>?_⟩;have slm:=sl.trans sm;exists d6 (slm _ _ gq) (eN (by lia)) rfl ?_;refine ⟨_,rfl,?_,(kpk.same slm).upd (.inl aq),by rw[br qcl.symm];exact slm _ _ gk,(lk.same slm).updL (slm _ _ gq),(bk.same slm).updL (slm _ _ gq)⟩;refine ((Xk.same slm).weak λx' _ y h=>⟨h.1,λz=>h.2.1 ?_,h.2.2⟩).put MA aq (slm _ _ gq) n4 ⟨λz=>absurd z xw,λz=>absurd z xd2,?_⟩ jj
    ·rw[dO hs];exact .tail _ z
    ·exact (zG (by lia) cj ci).mono (by lia)
   ·rintro σ' Hk ⟨y6,rfl,Xk,kpk,gk,lk,bk⟩;have gp:=Xk.gp;have Xk2:=Xk.weak (C':=λx y=>(x∈ws.drop 0->Fr (μ x) W y)/\Fr (μ x) (9*W) y) λx _ y h=>⟨λz=>h.1 (by simpa using z),h.2.2⟩
    clear Xk;exists ⟨⟨_,bL.of gp⟩,?_⟩;refine iH (K:=K) (a:=p) (xs:=ws) (λs σ' H'=>∃x6:Option V,σ'=[some (.ref b),some (.ref m),some (.ref p),some (.ref l),some (.int n),some (.int t),some (.int ii),some (.int jj),some (.ref bt),some (.ref lt),x6]/\iN K A H' n (λx y=>(x∈ws.drop s->Fr (μ x) W y)/\Fr (μ x) (9*W) y) m p l b q0 um ws vs/\fZ A b m H H'/\bQ K H' ((z:Int):Rat) (.ref bt)) ⟨_,rfl,Xk2,kpk,bk⟩ (λs σ' H' _ ⟨_,_,X,_⟩=>bL.of X.gp) ?_ ?_
    ·rintro s x σ' Hl hx ⟨w6,rfl,Xl,kpl,bl⟩;have hs:s < ws.length:=(aV.mp hx).1;have mx:=ar hx
     have xd:x∈ws.drop s:=by
      rw[dO hs,(aV.mp hx).2];exact .head _
     have xd2:x∉ws.drop (s+1):=λz=>by
      have:=nd2.sublist (List.drop_sublist s _);rw[dO hs,dJ,(aV.mp hx).2] at this;exact this.1 z
     have rx:=Xl.row x (az.mpr (.inr mx));obtain ⟨q,zs,qs,rfl,aq,gq,lq,pq,lq2,cq⟩:=rx.at;obtain ⟨vj,ej,nj'⟩:=Dz pq (j:=jj) (by lia);obtain ⟨vi,ei,ni'⟩:=Dz pq (j:=ii) (by lia);have cj:=(cq _ (getD_mem (xs:=qs) (i:=jj) (by lia))).1 xd;have ci:=(cq _ (getD_mem (xs:=qs) (i:=ii) (by lia))).1 xd;exists cA (bL.of gq) ei ?_;exists cA (bL.of gq) ej ?_;exists ⟨_,_,_,_,rfl,bl,nj',yS (by lia),sz9 (by lia) cj,λr3 Hm sm n3=>?_⟩;exists ⟨_,_,_,_,rfl,ni'.same sm,n3,sz9 (by lia) ci,vh (by lia) cj (M0 _) (M1 _) (by lia),λr4 Hn sn n4=>?_⟩;have smn:=sm.trans sn;exists d6 (smn _ _ gq) (eN (by lia)) rfl ?_;refine ⟨_,rfl,?_,(kpl.same smn).upd (.inl aq),(bl.same smn).updL (smn _ _ gq)⟩;refine ((Xl.same smn).weak λx' _ y h=>⟨λz=>h.1 ?_,h.2⟩).put MA aq (smn _ _ gq) n4 ⟨λz=>absurd z xd2,?_⟩ ii
     ·rw[dO hs];exact .tail _ z
     ·exact (zG (by lia) ci cj).mono (by lia)
    ·rintro σ' Hl ⟨w6,rfl,Xl,kpl,bl⟩;refine ⟨_,_,_,_,_,_,um,rfl,Xl.weak λ_ _ y h=>h.2.mono ?_,kpl⟩;rw[<- eW,jh,cH (9^t) 9,cN];exact av _
  ·rintro σ' H' ⟨x1,x2,x3,x4,x5,x6,us',rfl,X,kp⟩;exists bW λr H2' s' g'=>?_
   exact done r us' H2' _ (by lia) g' (X.same s') (kp.same s')
theorem c8:a9 ["_law_bag_here","_law_one","_law_other","_law_ahead","_law_behind","_law_found","_law_k"] ["_law_bag_here"] (aI iS):=by walk_at "d"
theorem qj (T:Txt K mg Z):cE P w K mg base fA 5 Z.lB Z.k9 ["_law_bag_here"] (Ia K):=by
 refine T.iE.F.ok c8 (λvs H Q E h=>?_) (λcdv A outer s H vs Q E hr h=>?_)
 ·obtain ⟨b,rfl,_⟩:=h;rfl
 ·obtain ⟨b,rfl,hB,k⟩:=h
  refine ⟨_,(ao (aU (i:=1) c8.nd rfl (Or.inl rfl) (cv (lZ T) hr T.iG (ae (pv 0) (ae aj ag))))
   (ao (aU (i:=2) c8.nd rfl (Or.inl rfl) (cv (lZ T) hr T.iG (ae (pv 0) (ae (bp dG aj (cv (aX T) hr T.aO (ae (pv 0) (ae aj ag)))) ag))))
   (ao (aU (i:=3) c8.nd rfl (Or.inr rfl) (bp FP (dB (ae (cL (ae aj (ae aj ag))) ag)) aj))
   (ao (aU (i:=4) c8.nd rfl (Or.inr rfl) (bp FP (dB (ae (cL (ae aj (ae aj ag))) ag)) (bO bD (by rfl) T.len bB (ae (aS bC (pv 2) aj) ag))))
   (ao (aU (i:=5) c8.nd rfl (Or.inl rfl) (dB ag))
   (ao (dU PassesOwn.never rfl (cg rfl T.range (ae aj ag)) (aN (i:=6) c8.nd)
    (aw (ir (tI cS dh dg iY (pv 5) (ae (bp jR (b7 ["_law_row_here"] ["_law_behind"] [4] (cw (aS bC (pv 1) (pv 6))) (λ_=>(aN (i:=0) (show ND9 ["_law_row_here","_law_behind"] by decide +kernel))) (λ_=>b8) (λ_=>(bp jR (pv 0) (pv 1)))) (b7 ["_law_row_here"] ["_law_ahead"] [3] (cw (aS bC (pv 2) (pv 6))) (λ_=>(aN (i:=0) (show ND9 ["_law_row_here","_law_ahead"] by decide +kernel))) (λ_=>b8) (λ_=>(bp jR (pv 1) (pv 0))))) ag)))))
   (aw (a8 (cv (oM T) hr T.jd (ae (pv 0) (ae (aS bw (pv 5) aj) (ae (aS bw (pv 5) aj) (ae (aS bw (pv 5) aj) ag))))))))))))),?_⟩
  refine aQ (σ:=[some (.ref b),none,none,none,none,none,none]) rfl ?_;obtain ⟨q0,I0,xq,gq0⟩:=hB.inner;exists ⟨b,3,rfl,hB,by decide,by decide,λr1 mv1 pt1 lk1 H1 P1 lm1 lp1 ll1 D1 fm1 fp1 fl1 B1 u1=>?_⟩;exists ⟨b,3,rfl,B1,by decide,by decide,λv H2 v0 v1 B2 u2=>?_⟩;obtain ⟨v,rfl⟩:=cy v0;have u02:=u1.trans u2;walk_at "w";rw[show ((3:Int)+(v:Int))=((3+v:Nat):Int) by lia];refine ⟨b,3+v,rfl,B2,by lia,by lia,λr2 mv2 pt2 lk2 H3 P2 lm2 lp2 ll2 D2 fm2 fp2 fl2 B3 u3=>?_⟩;have u03:=u02.trans u3;have P1c:=(P1.upto (u2.trans u3) B1 hB.at);have P2c:fu K H H3 r2 mv2 pt2 lk2:=P2.weak λq h=>u02.none B2 h
  exists bW λt0 H4 s4 g4=>?_
  exists c9 λa1 H5 s5 n5 g5=>?_
  exists FD (k:=3) g5 (by decide) λah H6 s6 n6 g6=>?_
  have s36:=(s4.trans s5).trans s6;obtain ⟨m1,p1,l1,gt1,m1n,p1n,l1n,Gm1,Gp1,Gl1⟩:=P1c.same s36;obtain ⟨m2,p2,l2,gt2,m2n,p2n,l2n,Gm2,Gp2,Gl2⟩:=P2c.same s36;have N0:bQ K H6 0 (V.ref t0):=bQ.mk (q:=0) ((s5.trans s6) _ _ g4) rfl;exists bW λt1 H7 s7 g7=>?_
  exists c9 λa2 H8 s8 n8' g8=>?_
  have s68:=s7.trans s8;have gt2':=s68 _ _ gt2;obtain ⟨um2,gm2,qm2,_⟩:=id (Gm2.same s68);have lum2:=qm2.length;exists ⟨_,_,rfl,.inl (bL.of gm2),?_⟩;rw[<- lum2,lm2];exists FD (k:=3+v) g8 (by lia) λbh H9 s9 n9 g9=>?_
  have s69:=s68.trans s9;have s39:=s36.trans s69;have N1:bQ K H9 0 (V.ref t1):=bQ.mk (q:=0) ((s8.trans s9) _ _ g7) rfl;have u09:=u03.same s39;have B9:=B3.same s39;have g6':=s69 _ _ g6;have N0':=N0.same s69;exists c9 λfd H10 s10 n10 g10=>?_
  have X1:∀i:Nat,i < 3->∃q1 R1 q2 R2,[V.ref m1,V.ref p1,V.ref l1][i]?=some (V.ref q1)/\bR K H H9 q1 R1/\(∀xs∈R1,xs.length=3/\∀y∈xs,Fr 1 1 y)/\[V.ref m2,V.ref p2,V.ref l2][i]?=some (V.ref q2)/\bR K H H9 q2 R2/\(∀xs∈R2,xs.length=3+v/\∀y∈xs,Fr 1 1 y)/\R1.length<=100/\R2.length<=100/\[6+v,2,2][i]?=some (R1.length+R2.length):=λi hi=>by
   rcases (show i=0\/i=1\/i=2 by lia) with rfl | rfl | rfl
   ·exact ⟨m1,mv1,m2,mv2,rfl,Gm1.same s69,λxs hx=>⟨by rw[D1.mw xs hx,lm1],fm1 xs hx⟩,rfl,Gm2.same s69,λxs hx=>⟨by rw[D2.mw xs hx,lm2],fm2 xs hx⟩,by lia,by lia,by rw[lm1,lm2,show 3+(3+v)=6+v by lia];rfl⟩
   ·exact ⟨p1,pt1,p2,pt2,rfl,Gp1.same s69,λxs hx=>⟨by rw[D1.pw xs hx,lm1],fp1 xs hx⟩,rfl,Gp2.same s69,λxs hx=>⟨by rw[D2.pw xs hx,lm2],fp2 xs hx⟩,by lia,by lia,by rw[lp1,lp2];rfl⟩
   ·exact ⟨l1,lk1,l2,lk2,rfl,Gl1.same s69,λxs hx=>⟨by rw[D1.lw xs hx,lm1],fl1 xs hx⟩,rfl,Gl2.same s69,λxs hx=>⟨by rw[D2.lw xs hx,lm2],fl2 xs hx⟩,by lia,by lia,by rw[ll1,ll2];rfl⟩
  exists ⟨by decide,by decide,?_⟩;refine dW (n:=3) (λi σ' H'=>aH H9 H'/\∃x6 L,σ'=[some (.ref b),some (.ref r1),some (.ref r2),some (.ref ah),some (.ref bh),some (.ref fd),x6]/\MM K H9 H' (6+v) fd L/\L.length=i/\∀(j:Nat) (e:Addr×List V),L[j]?=some e->[6+v,2,2][j]?=some e.2.length) ⟨s10,none,[],rfl,⟨g10,n10,(λ_ z=>nomatch z),kv,(λ_ z=>nomatch z),kv⟩,rfl,λj e h=>by simp at h⟩ ?_ ?_
  ·rintro i σ' H' hi ⟨s',x6,L,rfl,T,lL,hL⟩;obtain ⟨q1,R1,q2,R2,e1,G1,w1,e2,G2,w2,b1,b2,hlen⟩:=X1 i hi;have gt1':=s' _ _ (s69 _ _ gt1);have gt2'':=s' _ _ (s69 _ _ gt2);obtain ⟨ux1,gx1,qx1,_⟩:=id (G1.same s');have gb:=s' _ _ g9;have ga:=s' _ _ g6';exists ⟨.inl ⟨rfl,_,bL.of T.gf⟩,?_⟩;exists BU (mB.of gt1') (fF e1) ?_;exists ⟨⟨_,bL.of gx1⟩,?_⟩;refine yu (K:=K) (F:=dA K H) (λH'' c x=>∃q,x=V.ref q/\cx K H'' q c) (λr=>r++List.replicate (3+v) 0) gx1 qx1 (by lia) (λa b=>a.same b) (λa b=>by obtain ⟨q,e,r⟩:=a;exact ⟨q,e,r.same b⟩) (λa=>by obtain ⟨q,e,_,gg,_⟩:=a;exact ⟨q,e,by rw[gg];exact λz=>nomatch z⟩) ?_ ?_
   ·rintro j ns x Hi NY NN en si ⟨q,rfl,_,zs,gz,qz⟩ k1;have ws:=(w1 ns (ar en)).1;have lz:=qz.length;exists lV gz (si _ _ gb) (bf (bK (by rw[aL];lia))) λc Hj sj nj gj=>?_
    exact k1 _ _ sj ⟨c,rfl,_,gj,b9 (Paired.imp' (λ_ _ z=>z.same sj) qz) (pH (((N1.same s').same si).same sj) _)⟩ ⟨c,rfl,nj⟩
   rintro ys1 Ha c1 hc1 sa ga1 nd1 ne1 pr1;obtain ⟨ux2,gx2,qx2,_⟩:=id ((G2.same s').same sa);have gt2a:=sa _ _ gt2'';exists BU (mB.of gt2a) (fF e2) ?_;exists ⟨⟨_,bL.of gx2⟩,?_⟩;refine yu (K:=K) (F:=dA K H) (λH'' c x=>∃q,x=V.ref q/\cx K H'' q c) (λr=>List.replicate 3 0++r) gx2 qx2 (by lia) (λa b=>a.same b) (λa b=>by obtain ⟨q,e,r⟩:=a;exact ⟨q,e,r.same b⟩) (λa=>by obtain ⟨q,e,_,gg,_⟩:=a;exact ⟨q,e,by rw[gg];exact λz=>nomatch z⟩) ?_ ?_
   ·rintro j ns x Hi NY NN en si ⟨q,rfl,_,zs,gz,qz⟩ k1;have ws:=(w2 ns (ar en)).1;have lz:=qz.length;exists lV ((sa.trans si) _ _ ga) gz (bf (bK (by rw[aL];lia))) λc Hj sj nj gj=>?_
    exact k1 _ _ sj ⟨c,rfl,_,gj,b9 (pH ((((N0'.same s').same sa).same si).same sj) _) (Paired.imp' (λ_ _ z=>z.same sj) qz)⟩ ⟨c,rfl,nj⟩
   rintro ys2 Hb c2 hc2 sb gb2 nd2 ne2 pr2;have sab:=sa.trans sb;have ly1:=pr1.length;have ly2:=pr2.length;rw[ak] at ly1 ly2;exists lV (sb _ _ ga1) gb2 (bf (bK (by lia))) λqn Hc sc nc gc=>?_
   have sac:=sab.trans sc;have gfc:=sac _ _ T.gf;exists iT gfc (bK (by rw[ak];lia)) ?_
   have rP:∀{c:List Rat} {x:V},(∃q,x=V.ref q/\cx K Hb q c)->(∃q,x=V.ref q/\H' q=none)->c.length=6+v->(∀y∈c,Fr 1 1 y)->eK K (λz=>H' z=none/\z≠qn) Hc (6+v) (Fr 1 1) x:=λ⟨q,e,r⟩ ⟨q',e',nq⟩ hl hf=>by
    rw[e] at e';cases e';exact ⟨q,_,e,⟨nq,λz=>by obtain ⟨_,gg,_⟩:=r;rw[z,nc] at gg;cases gg⟩,r.same sc,hl,hf⟩
   refine ⟨(s'.trans sac).after n10,some (.int i),L++[(qn,ys1++ys2)],rfl,T.snoc s' sac (sab.none nc) gc ?_ (λx hx=>?_),by rw[ax,de,lL],λj e he=>?_⟩
   ·refine dc.mpr ⟨nd1,nd2,λx hx y hy z=>?_⟩;obtain ⟨_,_,q,e,_,gg,_⟩:=cP pr1 hx;obtain ⟨q',e',nq,_⟩:=ne2 y hy;rw[<- z,e] at e';cases e';rw[nq] at gg;cases gg
   ·rcases az.mp hx with hx | hx
    ·obtain ⟨c,mc,q,e,r⟩:=cP pr1 hx;obtain ⟨ns,mn,rfl⟩:=ay.mp mc;obtain ⟨q',e',nq,_⟩:=ne1 x hx;refine rP ⟨q,e,r.same sb⟩ ⟨q',e',nq⟩ (by rw[ax,aL,(w1 ns mn).1];lia) λy hy=>?_
     rcases az.mp hy with hy | hy
     ·exact (w1 ns mn).2 y hy
     ·rw[(dk.mp hy).2];exact Fr.zero
    ·obtain ⟨c,mc,q,e,r⟩:=cP pr2 hx;obtain ⟨ns,mn,rfl⟩:=ay.mp mc;obtain ⟨q',e',nq,_⟩:=ne2 x hx;refine rP ⟨q,e,r⟩ ⟨q',e',sa.none nq⟩ (by rw[ax,aL,(w2 ns mn).1];lia) λy hy=>?_
     rcases az.mp hy with hy | hy
     ·rw[(dk.mp hy).2];exact Fr.zero
     ·exact (w2 ns mn).2 y hy
   ·rcases gN j L.length with z | z
    ·rw[cz z] at he;exact hL j e he
    ·have hj:=(aV.mp he).1;rw[ax,de] at hj;have ej:j=L.length:=by lia
     subst ej;rw[bV (av _),Nat.sub_self] at he;cases he;rw[lL,hlen,ax,ly1,ly2]
  ·rintro σ' H' ⟨s',x6,L,rfl,T,lL,hL⟩
   obtain ⟨⟨m,us⟩,⟨p,ws⟩,⟨l,vs⟩,rfl⟩:∃a b c,L=[a,b,c]:=by
    rcases L with _ | ⟨a,_ | ⟨b,_ | ⟨c,_ | ⟨d,L⟩⟩⟩⟩
    ·cases lL
    ·cases lL
    ·cases lL
    ·exact ⟨a,b,c,rfl⟩
    ·simp at lL
   have lu:us.length=6+v:=by have:=hL 0 _ rfl;simpa using this.symm
   have lw:ws.length=2:=by have:=hL 1 _ rfl;simpa using this.symm
   have lv:vs.length=2:=by have:=hL 2 _ rfl;simpa using this.symm
   have gf:=T.gf;obtain ⟨mn,mf,gm⟩:=T.ls (m,us) (by simp);obtain ⟨pn,pf,gp⟩:=T.ls (p,ws) (by simp);obtain ⟨ln,lf,gl⟩:=T.ls (l,vs) (by simp);have nd:=T.nd;have rw':=T.rows;have rd:=T.rd;clear T hL;have gf:H' fd=some (.lst [.ref m,.ref p,.ref l]):=gf;have nd:[m,p,l].Nodup:=nd;have rd:(us++(ws++(vs++[]))).Nodup:=rd;have u0':=u09.same s';have B':=B9.same s';have hm0:H m=none:=u09.none B9 mn;have hp0:H p=none:=u09.none B9 pn;have hl0:H l=none:=u09.none B9 ln;obtain ⟨A,eA⟩:∃A:Addr->Prop,A=λq=>H q=none/\q≠m/\q≠p/\q≠l:=⟨_,rfl⟩
   have mkA:∀{q},H q=none->q≠m->q≠p->q≠l->A q:=λh1 h2 h3 h4=>by rw[eA];exact ⟨h1,h2,h3,h4⟩
   have unA:∀{q},A q->H q=none/\q≠m/\q≠p/\q≠l:=λh=>by rw[eA] at h;exact h
   have nb:∀{q},H q=none->q≠b:=λh z=>hB.at (by rw[<- z];exact h)
   have MA:Bp A m p l b q0:=⟨λz=>(unA z).2.1 rfl,λz=>(unA z).2.2.1 rfl,λz=>(unA z).2.2.2 rfl,λz=>hB.at (unA z).1,(λz=>by have z1:=(unA z).1;rw[gq0] at z1;cases z1),nb hm0,nb hp0,nb hl0,by intro z;subst z;simp at nd,by intro z;subst z;simp at nd,λz=>by rw[<- z,hm0] at gq0;cases gq0⟩;have X:iN K A H' (6+v) (λ_=>Fr 1 1) m p l b q0 us ws vs:=⟨B',u0'.2 _ I0,gm,gp,gl,lu,λx hx=>?_,?_⟩
   ·exists ⟨b,m,p,l,q0,6+v,1,λ_=>1,A,us,ws,vs,rfl,MA,X,by lia,by lia,by lia,λ_=>Nat.zero_lt_one,λ_=>cn,⟨1,λ_ _ _=>rfl⟩,by decide,λq hq=>?_,λr us' H'' g Y kp=>?_⟩
    ·exact mkA (u0'.none B' hq) (λz=>by rw[z,gm] at hq;cases hq) (λz=>by rw[z,gp] at hq;cases hq) (λz=>by rw[z,gl] at hq;cases hq)
    ·obtain ⟨mv,Gm,lmv,hmv⟩:=i8 (H0:=H) (n:=6+v) (C:=Fr 1 (9^3*1)) (m:=6+v) ⟨us',Y.gm,Y.lm,MA.am,λx hx=>Y.row x (by simp [hx])⟩ λq h=>(unA h).1
     obtain ⟨pt,Gp,lpt,hpt⟩:=i8 (H0:=H) (n:=6+v) (C:=Fr 1 (9^3*1)) (m:=2) ⟨ws,Y.gp,lw,MA.ap,λx hx=>Y.row x (by simp [hx])⟩ λq h=>(unA h).1
     obtain ⟨lk,Gl,llk,hlk⟩:=i8 (H0:=H) (n:=6+v) (C:=Fr 1 (9^3*1)) (m:=2) ⟨vs,Y.gl,lv,MA.al,λx hx=>Y.row x (by simp [hx])⟩ λq h=>(unA h).1
     refine k r mv pt lk H'' ⟨m,p,l,g,hm0,hp0,hl0,Gm,Gp,Gl⟩ (by lia) ⟨by lia,by lia,by lia,λxs hx=>by rw[(hmv xs hx).1,lmv],λxs hx=>by rw[(hpt xs hx).1,lmv],λxs hx=>by rw[(hlk xs hx).1,lmv]⟩ (λxs hx=>(hmv xs hx).2) (λxs hx=>(hpt xs hx).2) (λxs hx=>(hlk xs hx).2) Y.bag ⟨λc' u e n1=>kp c' u (u0'.1 _ _ e n1) n1 (λz=>by have:=(unA z).1;rw[e] at this;cases this) (λz=>by rw[z,hm0] at e;cases e),λq h=>by rw[<- Inner.inj I0 h];exact Y.inn⟩
   ·have hx:∃e∈[(m,us),(p,ws),(l,vs)],x∈e.2:=by
     rcases az.mp hx with hx | hx
     ·rcases az.mp hx with hx | hx
      ·exact ⟨(m,us),by simp,hx⟩
      ·exact ⟨(l,vs),by simp,hx⟩
     ·exact ⟨(p,ws),by simp,hx⟩
    obtain ⟨e,he,hx⟩:=hx;refine (rw' e he x hx).weak (λq hq=>?_) (λ_ w=>w);obtain ⟨⟨h1,_⟩,h2⟩:=hq;have h2:q∉[m,p,l]:=h2;simp only[aA,aP,or_false,not_or] at h2;exact mkA (u09.none B9 h1) h2.1 h2.2.1 h2.2.2
   ·rw[mQ] at rd
    have e:(us++vs++ws).Perm (us++(ws++vs)):=by
     rw[cD];exact List.Perm.append_left _ List.perm_append_comm
    exact e.nodup_iff.mpr rd
theorem mW:a9 ["_law_bag_here","_law_wide","_law_way"] ["_law_bag_here","_law_wide"] (aI kD):=by walk_at "d"
theorem nL (T:Txt K mg Z):cE P w K mg base fA 2 Z.oY Z.oS ["_law_bag_here","_law_wide"] (vp K):=by
 refine T.iF.F.ok mW (λvs H Q E h=>?_) (λcdv A outer s H vs Q E hr h=>?_)
 ·obtain ⟨b,w,rfl,_⟩:=h;rfl
 ·obtain ⟨b,w,rfl,hB,w0,w1,k⟩:=h
  refine ⟨_,(ao (aU (i:=2) mW.nd rfl (Or.inl rfl) (cv (aX T) hr T.aO (ae (pv 0) (ae aj ag))))
   (ao (c5 (bu oK (pv 2) aj (bG _)) (aw (a8 (cL (ae aj (ae aj ag))))) bT)
   (ao (c5 (bu oK (pv 2) aj (bG _)) (aw (a8 (cL (ae (bp jP (cv (aX T) hr T.aO (ae (pv 0) (ae aj ag))) aj) (ae aj ag))))) bT)
   (ao (c5 (bu eH (pv 2) aj (bG _)) (aw (a8 (cv (gZ T) hr T.eY (ae (bp jP (cv (aX T) hr T.aO (ae (pv 0) (ae aj ag))) aj) (ae (bp dG aj (cv (aX T) hr T.aO (ae (pv 0) (ae aj ag)))) ag))))) bT)
   (aw (a8 (cv (gZ T) hr T.eY (ae (bp jP (cv (aX T) hr T.aO (ae (pv 0) (ae (bp dG (bp cK aj (pv 1)) aj) ag))) (pv 1)) (ae (bp dG aj (cv (aX T) hr T.aO (ae (pv 0) (ae (pv 1) ag)))) ag))))))))),?_⟩
  refine aQ (σ:=[some (.ref b),some (.int w),none]) rfl ?_;exists ⟨b,8,rfl,hB,by decide,by decide,λv H1 v0 v1 B1 u1=>?_⟩;exists gC (λh0=>?_) (λh0=>?_)
  ·exists bW λr H2 s2 g2=>?_
   exact k r 0 _ ⟨bJ _,by show 1<=_;lia⟩ (bQ.mk g2 rfl) (B1.same s2) (u1.same s2)
  exists gC (λh1=>?_) (λh1=>?_)
  ·exists ⟨b,7,rfl,B1,by decide,by decide,λa H2 a0 a1 B2 u2=>?_⟩;exists bW λr H3 s3 g3=>?_
   exact k r ((a - 3:Int):Rat) _ ⟨by show (a - 3).natAbs<=_;lia,by show 1<=_;lia⟩ (bQ.mk g3 rfl) (B2.same s3) ((u1.trans u2).same s3)
  exists gC (λh2=>?_) (λh2=>?_)
  ·exists ⟨b,13,rfl,B1,by decide,by decide,λa H2 a0 a1 B2 u2=>?_⟩;exists ⟨b,6,rfl,B2,by decide,by decide,λc H3 c0 c1 B3 u3=>?_⟩;exists ⟨_,_,rfl,by lia,(BH (by lia)).mono (by decide),λr H4 s4 g4=>?_⟩;obtain ⟨q,e,d,_⟩:=Cm (t:=a - 6) (b:=1+c) (W:=max w 6) (by lia) (by lia) (by lia);exact k r q _ d (bQ.mk g4 e) (B3.same s4) (((u1.trans u2).trans u3).same s4)
  exists ⟨b,_,rfl,B1,by lia,by lia,λa H2 a0 a1 B2 u2=>?_⟩;exists ⟨b,_,rfl,B2,by lia,by lia,λc H3 c0 c1 B3 u3=>?_⟩;exists ⟨_,_,rfl,by lia,(BH (by lia)).mono (by decide),λr H4 s4 g4=>?_⟩;obtain ⟨q,e,d,_⟩:=Cm (t:=a - w) (b:=1+c) (W:=max w 6) (by lia) (by lia) (by lia);exact k r q _ d (bQ.mk g4 e) (B3.same s4) (((u1.trans u2).trans u3).same s4)
theorem Ax:a9 ["_law_bag_here","_law_many","_law_wide"] ["_law_bag_here","_law_many","_law_wide"] (aI pk):=by walk_at "d"
theorem nK (T:Txt K mg Z):cE P w K mg base fA 3 Z.xa Z.wO ["_law_bag_here","_law_many","_law_wide"] (Ar K):=by
 refine T.hX.F.ok Ax (λvs H Q E h=>?_) (λcdv A outer s H vs Q E hr h=>?_)
 ·obtain ⟨b,m,w,rfl,_⟩:=h;rfl
 ·obtain ⟨b,m,w,rfl,hB,hm,w0,w1,k⟩:=h;refine ⟨_,(aw (a8 (b7 ["_law_k"] ["_law_bag_here","_law_wide"] [0,2] (cg rfl T.range (ae (pv 1) ag)) (λ_=>(aN (i:=0) (show ND9 ["_law_k","_law_bag_here","_law_wide"] by decide +kernel))) (λ_=>b8) (λ_=>(cv (nL T) hr T.iF (ae (pv 1) (ae (pv 2) ag))))))),?_⟩;refine aQ (σ:=[some (.ref b),some (.int m),some (.int w)]) rfl ?_;exists ⟨by lia,by lia,?_⟩;refine tj (n:=m) (bQ K) (Dr (max w 6)) hB hm (λa u B=>a.upto u B) ?_ ?_
  ·rintro i H' NY NN hi u B k1;exists ⟨b,w,rfl,B,w0,w1,λr x H2 hx h2 B2 u2=>k1 _ x _ u2 B2 hx h2⟩
  ·rintro ys cs H' p hp u B g lc hc pr nx;exact k p cs H' hp ⟨ys,g,pr⟩ lc hc B u
theorem ip:a9 ["_law_bag_here","_law_n","_law_way","_law_first","_law_wide","_law_move_here","_law_i","_law_row_here","_law_j"] ["_law_bag_here","_law_n","_law_way","_law_first","_law_wide"] (aI ni):=by walk_at "d"
theorem zv (T:Txt K mg Z):cE P w K mg base fA 4 Z.uD Z.ue ["_law_bag_here","_law_n","_law_way","_law_first","_law_wide"] (Am K):=by
 refine T.md.F.ok ip (λvs H Q E h=>?_) (λcdv A outer s H vs Q E hr h=>?_)
 ·obtain ⟨b,n,w,way,first,rfl,_⟩:=h;rfl
 ·obtain ⟨b,n,w,way,first,rfl,hB,n8,w0,w1,k⟩:=h
  refine ⟨_,(ao (aU (i:=5) ip.nd rfl (Or.inl rfl) (dB ag))
   (ao (dU PassesOwn.never rfl (cg rfl T.range (ae (pv 1) ag)) (aN (i:=6) ip.nd)
    (ao (aU (i:=7) ip.nd rfl (Or.inl rfl) (cv (nK T) hr T.hX (ae (pv 0) (ae (pv 1) (ae (pv 4) ag)))))
   (ao (dU PassesOwn.never rfl (cg rfl T.range (ae (pv 1) ag)) (aN (i:=8) ip.nd)
    (gY (c5 (PW.pt (iU (bu eH (pv 2) aj (bG _)) (jB (bu tN (cv (aX T) hr T.aO (ae (pv 0) (ae aj ag))) aj (bG _))))) (aw (eQ (cL (ae aj (ae aj ag))) (fN (pv 7) (pv 8) set_list))) bT)
   (gY (c5 (PW.pt (iU (bu eH (pv 2) aj (bG _)) (jB (bu oK (bp dG (pv 6) aj) (pv 1) (bG _))))) (aw (eQ (cL (ae (fz lh (by rfl) T.int PyProof.Rows.boot_int (ae (jC eH (pv 8) (bp dG (pv 6) aj) (bG _)) ag)) (ae aj ag))) (fN (pv 7) (pv 8) set_list))) bT)
   (gY (c5 (PW.pt (tH (PW.pt (iU (bu eH (pv 2) aj (bG _)) (iU (bu vV (pv 6) (pv 3) (bG _)) (jB (bu oK (pv 8) (pv 3) (bG _)))))) (nI (PW.pt (iU (bu eH (pv 2) aj (bG _)) (iU (bu oK (pv 6) (pv 3) (bG _)) (jB (bu vV (pv 8) (pv 3) (bG _))))))))) (aw (eQ (cL (ae aj (ae aj ag))) (fN (pv 7) (pv 8) set_list))) bT)
   (aw (c5 (bu eH (pv 2) aj (bG _)) (aw (eQ (cL (ae (bp cK (aS bw (dB (ae aj (ae aj (ae (ya rn aj) (ae aj ag))))) (bp jQ (pv 3) aj)) (fz lh (by rfl) T.int PyProof.Rows.boot_int (ae (jC eH (pv 6) (pv 8) (bG _)) ag))) (ae aj ag))) (fN (pv 7) (pv 8) set_list))) bT))))))
   (aw (ir (tI cS dh dg iY (pv 5) (ae (pv 7) ag)))))))
   (aw (a8 (pv 5))))),?_⟩
  refine aQ (σ:=[some (.ref b),some (.int n),some (.int way),some (.int first),some (.int w),none,none,none,none]) rfl ?_;have W1:1<=max w 6:=by lia
  exists c9 λr H1 s1 n1 g1=>?_
  have rb:r≠b:=λz=>hB.at (by rw[<- z];exact n1)
  obtain ⟨q0,I0,xs0,gq0⟩:=hB.inner;have I1:Inner H1 b q0:=(s1.upto (p:=b)).2 _ I0;obtain ⟨A,eA⟩:∃A:Addr->Prop,A=λq=>H q=none/\q≠r:=⟨_,rfl⟩
  have nb:¬A b:=by rw[eA];exact λz=>hB.at z.1
  have nr:¬A r:=by rw[eA];exact λz=>z.2 rfl
  have nq:¬A q0:=by rw[eA];exact λz=>by have z1:=z.1;rw[gq0] at z1;cases z1
  have rq:r≠q0:=λz=>by rw[<- z,n1] at gq0;cases gq0
  exists ⟨by lia,by lia,?_⟩;refine dW (n:=n) (λi σ' H'=>∃(x1 x2 x3:Option V) (us:List V),σ'=[some (.ref b),some (.int n),some (.int way),some (.int first),some (.int w),some (.ref r),x1,x2,x3]/\H' r=some (.lst us)/\us.length=i/\us.Nodup/\(∀x∈us,eK K A H' n (Dr (max w 6)) x)/\fI H' b/\Inner H' b q0/\cG b H H') ⟨none,none,none,[],rfl,g1,rfl,kv,(λ_ z=>nomatch z),hB.same s1,I1,s1.upto⟩ ?_ ?_
  ·rintro i σ' H' hi ⟨x1,x2,x3,us,rfl,gu,lu,nd,ru,B',I',u'⟩;exists ⟨b,n,w,rfl,B',by lia,w0,w1,λp xs Ha np Ra la da Ba ua=>?_⟩;have hp0:H p=none:=u'.none B' np
   have pn:V.ref p∉us:=λz=>by
    obtain ⟨q',_,_,e',_,g',_⟩:=(ru _ z).at;cases e';rw[np] at g';cases g'
   have ap':H p=none/\p≠r:=⟨hp0,λz=>by rw[z,gu] at np;cases np⟩;have ap:A p:=by rw[eA];exact ap'
   have X0:D5 K A n (Dr (max w 6)) r p b q0 us H Ha:=⟨ua.other rb gu,λx hx=>(ru x hx).upto ua B' nb,⟨p,xs,rfl,ap,Ra,la,da⟩,Ba,ua.2 _ I',u'.trans ua⟩;clear ru Ra gu;exists ⟨by lia,by lia,?_⟩;refine dW (n:=n) (λj σ' H'=>(∃x3,σ'=[some (.ref b),some (.int n),some (.int way),some (.int first),some (.int w),some (.ref r),some (.int i),some (.ref p),x3])/\D5 K A n (Dr (max w 6)) r p b q0 us H H') ⟨⟨_,rfl⟩,X0⟩ ?_ ?_
   ·rintro j σ' Hj hj ⟨⟨x3,rfl⟩,X⟩;exists ⟨λσ' H'=>σ'=[some (.ref b),some (.int n),some (.int way),some (.int first),some (.int w),some (.ref r),some (.int i),some (.ref p),some (.int j)]/\D5 K A n (Dr (max w 6)) r p b q0 us H H',?_,?_⟩
    ·exists gC (λ_=>?_) (λ_=>?_)
     ·exists ⟨b,3,rfl,X.bag,by decide,by decide,λd Hd d0 d1 Bd ud=>?_⟩;replace X:=X.upto ud Bd nb rb
      repeat' (first | walk_at "rd" | refine gC (λ_=>?_) (λ_=>?_))
      all_goals first
       | exact ⟨rfl,X⟩
       | (refine bW λt Hb sb gb=>?_;walk_at "w";obtain ⟨zs,gz,lz,Xz⟩:=(X.same sb).put ap nr nb nq hp0 (bQ.mk (q:=0) gb rfl) (nR (i:=0) (bJ _) W1) j;refine d6 gz (eN (by lia)) rfl ?_;exact ⟨rfl,Xz⟩)
     ·exists ⟨rfl,X⟩
    clear X;rintro σ' Hj ⟨rfl,X⟩;refine ⟨λσ' H'=>σ'=[some (.ref b),some (.int n),some (.int way),some (.int first),some (.int w),some (.ref r),some (.int i),some (.ref p),some (.int j)]/\D5 K A n (Dr (max w 6)) r p b q0 us H H',?_,?_⟩
    ·repeat' (first | walk_at "rd" | refine gC (λ_=>?_) (λ_=>?_))
     all_goals first
      | exact ⟨rfl,X⟩
      | (refine bW λt Hb sb gb=>?_;walk_at "w";obtain ⟨zs,gz,lz,Xz⟩:=(X.same sb).put ap nr nb nq hp0 (bQ.mk (q:=((if decide ((j:Int)=(i:Int)+1)=true then (1:Int) else 0:Int):Rat)) gb rfl) (nR (by split <;> lia) W1) j;refine d6 gz (eN (by lia)) rfl ?_;exact ⟨rfl,Xz⟩)
    clear X;rintro σ' Hj ⟨rfl,X⟩;refine ⟨λσ' H'=>σ'=[some (.ref b),some (.int n),some (.int way),some (.int first),some (.int w),some (.ref r),some (.int i),some (.ref p),some (.int j)]/\D5 K A n (Dr (max w 6)) r p b q0 us H H',?_,?_⟩
    ·repeat' (first | walk_at "rd" | refine gC (λ_=>?_) (λ_=>?_))
     all_goals first
      | exact ⟨rfl,X⟩
      | (refine bW λt Hb sb gb=>?_;walk_at "w";obtain ⟨zs,gz,lz,Xz⟩:=(X.same sb).put ap nr nb nq hp0 (bQ.mk (q:=0) gb rfl) (nR (i:=0) (bJ _) W1) j;refine d6 gz (eN (by lia)) rfl ?_;exact ⟨rfl,Xz⟩)
    clear X;rintro σ' Hj ⟨rfl,X⟩;exists gC (λ_=>?_) (λ_=>?_)
    ·exists c9 λl0 Hc sc nc gc=>?_
     walk_at "w";obtain ⟨x,ex,mx,_⟩:=iK (xs:=[V.int 2,V.int 1,V.int (-1),V.int 0]) (i:=first % 4) (ic _ (by decide)) (by have:=ff first (show (0:Int) < 4 by decide);simpa using this)
     obtain ⟨z,rfl,hz⟩:∃z:Int,x=.int z/\z.natAbs<=2:=by
      simp only[aA,aP,or_false] at mx;rcases mx with rfl | rfl | rfl | rfl
      ·exact ⟨2,rfl,by decide⟩
      ·exact ⟨1,rfl,by decide⟩
      ·exact ⟨-1,rfl,by decide⟩
      ·exact ⟨0,rfl,by decide⟩
     refine cA (bL.of gc) ex ?_;exists eC (DR (by lia) (by lia)) ?_;exists bW λt Hb sb gb=>?_
     walk_at "w";obtain ⟨zs,gz,lz,Xz⟩:=((X.same sc).same sb).put ap nr nb nq hp0 (bQ.mk (q:=((z*(if decide ((i:Int)=(j:Int))=true then (1:Int) else 0):Int):Rat)) gb rfl) (nR (by split <;> lia) W1) j;refine d6 gz (eN (by lia)) rfl ?_;exact ⟨⟨_,rfl⟩,Xz⟩
    ·exists ⟨⟨_,rfl⟩,X⟩
   ·rintro σ' Hj ⟨⟨x3,rfl⟩,X⟩;exists ⟨.inl ⟨rfl,_,bL.of X.gr⟩,?_⟩;exists iT X.gr (bK (by lia)) ?_;refine ⟨_,_,_,us++[.ref p],rfl,aJ,by simp [lu],l5 nd pn,λx hx=>?_,X.bag.upd X.inn rb rq,X.inn.upd rb,X.up.after n1⟩;rcases az.mp hx with hx | hx
    ·exact (X.ru x hx).other X.gr nr
    ·have e:x=V.ref p:=by simpa using hx
     rw[e];exact X.rp.other X.gr nr
  ·rintro σ' H' ⟨x1,x2,x3,us,rfl,gu,lu,nd,ru,B',I',u'⟩;exists k r us H' n1 gu lu nd (by rw[eA] at ru;exact ru) B' u'
theorem du:a9 ["_law_bag_here","_law_n","_law_ins","_law_outs","_law_wide","_law_way","_law_first","_law_move_here","_law_put","_law_look","_law_k","_law_row_here"] ["_law_bag_here","_law_n","_law_ins","_law_outs","_law_wide"] (aI lQ):=by walk_at "d"
theorem xC (T : Txt K mg Z) : cE P w K mg base fA 5 Z.qY Z.qK ["_law_bag_here", "_law_n", "_law_ins", "_law_outs", "_law_wide"] (xS K) := by
  have ki := aX (P := P) (w := w) (base := base) T;have Bq := zv (P := P) (w := w) (base := base) T;have xj := nK (P := P) (w := w) (base := base) T;have zV := oM (P := P) (w := w) (base := base) T;refine T.kO.F.ok du (λvs H Q E h => ?_) (λcdv A outer s H vs Q E hr h => ?_)
  · obtain ⟨b, n, i, o, w, c, rfl, _⟩ := h;rfl
  · obtain ⟨b, n, i, o, w, c, rfl, hB, n8, i4, o4, w0, w1, hc, hc20, hcM, k⟩ := h
    refine ⟨_, (ao (aU (i := 5) du.nd rfl (Or.inl rfl) (cv ki hr T.aO (ae (pv 0) (ae aj ag))))
      (ao (aU (i := 6) du.nd rfl (Or.inl rfl) (cv ki hr T.aO (ae (pv 0) (ae (bp dG (pv 1) aj) ag))))
      (ao (aU (i := 7) du.nd rfl (Or.inl rfl) (cv Bq hr T.md (ae (pv 0) (ae (pv 1) (ae (pv 5) (ae (pv 6) (ae (pv 4) ag)))))))
      (ao (j9 8 ["_law_k"] ["_law_bag_here", "_law_n", "_law_wide"] [0, 1, 4] du.nd rfl rfl (cg rfl T.range (ae (pv 2) ag)) (λ_ => (aN (i := 0) (show List.Nodup (α := PySem.Str) ["_law_k", "_law_bag_here", "_law_n", "_law_wide"] by decide +kernel))) (λ_ => b8) (λ_ => (cv xj hr T.hX (ae (pv 1) (ae (pv 2) (ae (pv 3) ag))))))
      (ao (j9 9 ["_law_k"] ["_law_bag_here", "_law_n", "_law_wide"] [0, 1, 4] du.nd rfl rfl (cg rfl T.range (ae (pv 3) ag)) (λ_ => (aN (i := 0) (show List.Nodup (α := PySem.Str) ["_law_k", "_law_bag_here", "_law_n", "_law_wide"] by decide +kernel))) (λ_ => b8) (λ_ => (cv xj hr T.hX (ae (pv 1) (ae (pv 2) (ae (pv 3) ag))))))
      (ao (dU PassesOwn.never rfl (cg rfl T.range (ae (pv 1) ag)) (aN (i := 10) du.nd)
        (ao (dU PassesOwn.never rfl (cw (pv 8)) (aN (i := 11) du.nd)
        (aw (c5 (PW.pt (tH (PW.pt (iU (bu eH (pv 5) aj (bG _)) (jB (bu vV (pv 10) (pv 6) (bG _))))) (nI (PW.pt (iU (bu eH (pv 5) aj (bG _)) (iU (bu oK (bp dG (pv 10) aj) (pv 1) (bG _)) (jB (bu eH (cv ki hr T.aO (ae (pv 0) (ae aj ag))) aj (bG _))))))))) (aw (eQ (cL (ae aj (ae aj ag))) (fN (pv 11) (pv 10) set_list))) bT)))
      (aw (dU PassesOwn.never rfl (cw (pv 9)) (aN (i := 11) du.nd)
        (aw (c5 (PW.pt (tH (PW.pt (iU (bu eH (pv 5) aj (bG _)) (jB (bu vV (pv 10) (pv 6) (bG _))))) (nI (PW.pt (iU (bu eH (pv 5) aj (bG _)) (iU (bu tN (pv 10) aj (bG _)) (jB (bu eH (cv ki hr T.aO (ae (pv 0) (ae aj ag))) aj (bG _))))))))) (aw (eQ (cL (ae aj (ae aj ag))) (fN (pv 11) (pv 10) set_list))) bT))))))
      (aw (a8 (cv zV hr T.jd (ae (pv 0) (ae (pv 7) (ae (pv 8) (ae (pv 9) ag))))))))))))), ?_⟩
    refine aQ (σ := [some (.ref b), some (.int n), some (.int i), some (.int o), some (.int w), none, none, none, none, none, none, none]) rfl ?_;have W1 : 1 ≤ max w 6 := by lia
    obtain ⟨q0, I0, xs0, gq0⟩ := hB.inner;exists ⟨b, 6, rfl, hB, by decide, by decide, λway H1 a0 a1 B1 u1 => ?_⟩;exists ⟨b, _, rfl, B1, by lia, by lia, λfirst H2 f0 f1 B2 u2 => ?_⟩;have u02 := u1.trans u2;exists ⟨b, n, w, way, first, rfl, B2, n8, w0, w1, λm us H3 nm0 gm lm ndm rm B3 u3 => ?_⟩;have u03 := u02.trans u3;exists ⟨by lia, by lia, ?_⟩;refine yw (n := i) (b := b) (dA K H3) (λxs => xs.length = n /\ ∀ x ∈ xs, Dr (max w 6) x) B3 (by lia) (λa u B => a.upto u B B3.at) (λ⟨q, e, _, _, g, _⟩ => ⟨q, e, by rw [g]; exact λz => nomatch z⟩) ?_ ?_
    · rintro s H' NY NN hi u B k1;exists ⟨b, n, w, rfl, B, by lia, w0, w1, λr xs H2 nr R lx dx B2 u2 => k1 _ xs _ u2 B2 ⟨lx, dx⟩ ⟨r, rfl, u.none B nr, R⟩ ⟨r, rfl, nr⟩⟩
    rintro ws puts H4 p np u4 B4 gp lp ndp hp pr4 nx4;have u04 := u03.trans u4;exists ⟨by lia, by lia, ?_⟩;refine yw (n := o) (b := b) (dA K H4) (λxs => xs.length = n /\ ∀ x ∈ xs, Dr (max w 6) x) B4 (by lia) (λa u B => a.upto u B B4.at) (λ⟨q, e, _, _, g, _⟩ => ⟨q, e, by rw [g]; exact λz => nomatch z⟩) ?_ ?_
    · rintro s H' NY NN hi u B k1;exists ⟨b, n, w, rfl, B, by lia, w0, w1, λr xs H2 nr R lx dx B2 u2 => k1 _ xs _ u2 B2 ⟨lx, dx⟩ ⟨r, rfl, u.none B nr, R⟩ ⟨r, rfl, nr⟩⟩
    rintro vs looks H5 l nl u5 B5 gl ll ndl hl pr5 nx5;have u05 := u04.trans u5;have hm0 : H m = none := u02.none B2 nm0;have hp0 : H p = none := u03.none B3 np;have hl0 : H l = none := u04.none B4 nl;have mb : m ≠ b := λz => B2.at (by rw [<- z]; exact nm0)
    have pb : p ≠ b := λz => B3.at (by rw [<- z]; exact np)
    have lb : l ≠ b := λz => B4.at (by rw [<- z]; exact nl)
    have gm4 := u4.other mb gm;have gm5 := u5.other mb gm4;have gp5 := u5.other pb gp;have mp : m ≠ p := λz => by rw [z, np] at gm; cases gm
    have ml : m ≠ l := λz => by rw [z, nl] at gm4; cases gm4
    have pl : p ≠ l := λz => by rw [z, nl] at gp; cases gp
    have mq : m ≠ q0 := λz => Inner.at B2 (u02.2 _ I0) (by rw [<- z]; exact nm0)
    obtain ⟨A, eA⟩ : ∃ A : Addr → Prop, A = λq => H q = none /\ q ≠ m /\ q ≠ p /\ q ≠ l := ⟨_, rfl⟩
    have mkA : ∀ {q}, H q = none → q ≠ m → q ≠ p → q ≠ l → A q := λh1 h2 h3 h4 => by rw [eA]; exact ⟨h1, h2, h3, h4⟩
    have unA : ∀ {q}, A q → H q = none /\ q ≠ m /\ q ≠ p /\ q ≠ l := λh => by rw [eA] at h; exact h
    have MA : Bp A m p l b q0 := ⟨λz => (unA z).2.1 rfl, λz => (unA z).2.2.1 rfl, λz => (unA z).2.2.2 rfl, λz => hB.at (unA z).1, (λz => by have z1 := (unA z).1; rw [gq0] at z1; cases z1), mb, pb, lb, mp, ml, mq⟩;clear eA;have lws : ws.length = i := by rw [<- pr4.length]; exact lp
    have lvs : vs.length = o := by rw [<- pr5.length]; exact ll
    have alM : ∀ q, V.ref q ∈ us → H3 q ≠ none /\ q ≠ b /\ H4 q ≠ none := λq hq => by
      obtain ⟨q', qs, e, ⟨a1, a2⟩, r, z⟩ := rm _ hq;cases e;have qb : q ≠ b := λy => B2.at (by rw [<- y]; exact a1)
      obtain ⟨xq, gq, _⟩ := id r;obtain ⟨xq4, gq4, _⟩ := r.upto u4 B3 qb;exact ⟨(by rw [gq]; exact λz => nomatch z), qb, (by rw [gq4]; exact λz => nomatch z)⟩
    have alP : ∀ q, V.ref q ∈ ws → H3 q = none /\ H4 q ≠ none := λq hq => by
      obtain ⟨_, _, q', e, a, _, g, _⟩ := cP pr4 hq;cases e;exact ⟨a, by rw [g]; exact λz => nomatch z⟩
    have alL : ∀ q, V.ref q ∈ vs → H4 q = none := λq hq => by
      obtain ⟨_, _, q', e, a, _⟩ := cP pr5 hq;cases e;exact a
    have isR : ∀ x, x ∈ us \/ x ∈ ws \/ x ∈ vs → ∃ q, x = V.ref q := λx hx => by
      rcases hx with hx | hx | hx
      · obtain ⟨q, _, e, _⟩ := rm x hx; exact ⟨q, e⟩
      · obtain ⟨_, _, q, e, _⟩ := cP pr4 hx; exact ⟨q, e⟩
      · obtain ⟨_, _, q, e, _⟩ := cP pr5 hx; exact ⟨q, e⟩
    have nd : (us ++ vs ++ ws).Nodup := by
      refine dc.mpr ⟨dc.mpr ⟨ndm, ndl, λx hx y hy e => ?_⟩, ndp, λx hx y hy e => ?_⟩
      · subst e;obtain ⟨q, rfl⟩ := isR x (.inl hx);exact (alM q hx).2.2 (alL q hy)
      · subst e;obtain ⟨q, rfl⟩ := isR x (.inr (.inl hy));rcases az.mp hx with hx | hx
        · exact (alM q hx).1 (alP q hy).1
        · exact (alP q hy).2 (alL q hx)
    have X5 : CF K A n (Dr (max w 6)) m p l b q0 us ws vs H H5 := by
      refine ⟨⟨B5, u05.2 _ I0, gm5, gp5, gl, lm, λx hx => ?_, nd⟩, gp5, gl, λc u e n1 _ _ => u05.1 c u e n1⟩;rcases az.mp hx with hx | hx
      · rcases az.mp hx with hx | hx
        · obtain ⟨q, qs, e, ⟨a1, a2⟩, r, z⟩ := rm x hx;obtain ⟨xq, gq, _⟩ := id r;have qb : q ≠ b := λy => B2.at (by rw [<- y]; exact a1)
          have r4 := r.upto u4 B3 qb;obtain ⟨xq4, gq4, _⟩ := id r4;exact ⟨q, qs, e, mkA (u02.none B2 a1) a2 (λy => by rw [y, np] at gq; cases gq) (λy => by rw [y, nl] at gq4; cases gq4), r4.upto u5 B4 qb, z⟩
        · refine FC (A := A) pr5 hl (λq hq a b' => ?_) x hx;exact mkA (u04.none B4 a) (λy => by rw [y, gm4] at a; cases a) (λy => by rw [y, gp] at a; cases a) (λy => kW nx5 (by rw [<- y]; exact hq))
      · refine eK.upto (FC (A := A) pr4 hp (λq hq a b' => ?_) x hx) u5 B4 MA.ab;exact mkA (u03.none B3 a) (λy => by rw [y, gm] at a; cases a) (λy => kW nx4 (by rw [<- y]; exact hq)) (λy => b' (by rw [y]; exact nl))
    clear alM alP alL isR rm pr4 pr5 nx4 nx5 gm gm4 gm5 gp gp5 gl hp hl;exists ⟨by lia, by lia, ?_⟩;refine dW (n := n) (λkk σ' H' => (∃ x1 x2, σ' = [some (.ref b), some (.int n), some (.int i), some (.int o), some (.int w), some (.int way), some (.int first), some (.ref m), some (.ref p), some (.ref l), x1, x2]) /\ CF K A n (Dr (max w 6)) m p l b q0 us ws vs H H') ⟨⟨_, _, rfl⟩, X5⟩ ?_ ?_
    · rintro kk σ' Hj hk ⟨⟨x1, x2, rfl⟩, X⟩;exists ⟨⟨_, bL.of X.gp⟩, ?_⟩;refine iH (K := K) (a := p) (xs := ws) (λs σ' H' => (∃ x2, σ' = [some (.ref b), some (.int n), some (.int i), some (.int o), some (.int w), some (.int way), some (.int first), some (.ref m), some (.ref p), some (.ref l), some (.int kk), x2]) /\ CF K A n (Dr (max w 6)) m p l b q0 us ws vs H H') ⟨⟨_, rfl⟩, X⟩ (λs σ' H' _ ⟨_, e⟩ => bL.of e.gp) ?_ ?_
      · rintro s x σ' Hk hx ⟨⟨y2, rfl⟩, X⟩;have mx := ar hx;obtain ⟨q, _, rfl, _⟩ := X.row (.inl mx)
        repeat' (first | walk_at "rd" | refine gC (λ_ => ?_) (λ_ => ?_))
        all_goals first
          | exact ⟨⟨_, rfl⟩, X⟩
          | (refine bW λt Hb sb gb => ?_; walk_at "w"; obtain ⟨zs, gz, lz, Xz⟩ := (X.same sb).put MA (.inl mx) (bQ.mk (q := 0) gb rfl) (nR (i := 0) (bJ _) W1) kk; refine d6 gz (eN (by lia)) rfl ?_; exact ⟨⟨_, rfl⟩, Xz⟩)
          | (refine ⟨b, 2, rfl, X.mix.bag, by decide, by decide, λd Hd d0 d1 Bd ud => ?_⟩
             replace X := X.upto MA ud Bd
             repeat' (first | walk_at "rd" | refine gC (λ_ => ?_) (λ_ => ?_))
             all_goals first
               | exact ⟨⟨_, rfl⟩, X⟩
               | (refine bW λt Hb sb gb => ?_
                  walk_at "w";obtain ⟨zs, gz, lz, Xz⟩ := (X.same sb).put MA (.inl mx) (bQ.mk (q := 0) gb rfl) (nR (i := 0) (bJ _) W1) kk;refine d6 gz (eN (by lia)) rfl ?_;exact ⟨⟨_, rfl⟩, Xz⟩))
      · rintro σ' Hk ⟨⟨y2, rfl⟩, X⟩;exists ⟨⟨_, bL.of X.gl⟩, ?_⟩;refine iH (K := K) (a := l) (xs := vs) (λs σ' H' => (∃ x2, σ' = [some (.ref b), some (.int n), some (.int i), some (.int o), some (.int w), some (.int way), some (.int first), some (.ref m), some (.ref p), some (.ref l), some (.int kk), x2]) /\ CF K A n (Dr (max w 6)) m p l b q0 us ws vs H H') ⟨⟨_, rfl⟩, X⟩ (λs σ' H' _ ⟨_, e⟩ => bL.of e.gl) ?_ ?_
        · rintro s x σ' Hk hx ⟨⟨y2, rfl⟩, X⟩;have mx := ar hx;obtain ⟨q, _, rfl, _⟩ := X.row (.inr mx)
          repeat' (first | walk_at "rd" | refine gC (λ_ => ?_) (λ_ => ?_))
          all_goals first
            | exact ⟨⟨_, rfl⟩, X⟩
            | (refine bW λt Hb sb gb => ?_; walk_at "w"; obtain ⟨zs, gz, lz, Xz⟩ := (X.same sb).put MA (.inr mx) (bQ.mk (q := 0) gb rfl) (nR (i := 0) (bJ _) W1) kk; refine d6 gz (eN (by lia)) rfl ?_; exact ⟨⟨_, rfl⟩, Xz⟩)
            | (refine ⟨b, 2, rfl, X.mix.bag, by decide, by decide, λd Hd d0 d1 Bd ud => ?_⟩
               replace X := X.upto MA ud Bd
               repeat' (first | walk_at "rd" | refine gC (λ_ => ?_) (λ_ => ?_))
               all_goals first
                 | exact ⟨⟨_, rfl⟩, X⟩
                 | (refine bW λt Hb sb gb => ?_
                    walk_at "w";obtain ⟨zs, gz, lz, Xz⟩ := (X.same sb).put MA (.inr mx) (bQ.mk (q := 0) gb rfl) (nR (i := 0) (bJ _) W1) kk;refine d6 gz (eN (by lia)) rfl ?_;exact ⟨⟨_, rfl⟩, Xz⟩))
        · rintro σ' Hk ⟨⟨y2, rfl⟩, X⟩;exact ⟨⟨_, _, rfl⟩, X⟩
    · rintro σ' Hj ⟨⟨x1, x2, rfl⟩, X⟩
      obtain ⟨M1, M2, M3, V0, a1, a2, a3, V2, hcs, R1, R2, R3⟩ : ∃ M1 M2 M3 V0 : Nat, (0 < M1 /\ M1 ≤ 2 ^ 800) /\ (0 < M2 /\ M2 ≤ 2 ^ 800) /\ (0 < M3 /\ M3 ≤ 2 ^ 800) /\ V0 ≤ 2 ^ 20 /\ ((w ≤ 9 /\ M1 = 2520 /\ M2 = 2520 /\ M3 = 2520 /\ V0 = 9) \/ (9 < w /\ M1 ≤ 2 ^ (c * (n * n)) /\ M2 ≤ 2 ^ (c * (i * n)) /\ M3 ≤ 2 ^ (c * (o * n)) /\ V0 = 2 ^ c)) /\ (∀ x ∈ us, eK K A Hj n (Fr M1 V0) x) /\ (∀ x ∈ ws, eK K A Hj n (Fr M2 V0) x) /\ ∀ x ∈ vs, eK K A Hj n (Fr M3 V0) x := by
        by_cases w9 : w ≤ 9
        · have XM := X.mix.weak (C' := λ_ => Fr 2520 9) λ_ _ y h => wK ⟨ai h.1 (by lia), ai h.2 (by lia)⟩ (ks _)
          have z : 0 < 2520 /\ 2520 ≤ 2 ^ 800 := ⟨by decide, ai (show 2520 ≤ 2 ^ 12 by decide) (au (by decide) (by decide))⟩;exact ⟨2520, 2520, 2520, 9, z, z, z, by decide, .inl ⟨w9, rfl, rfl, rfl, rfl⟩, λx hx => XM.row x (by simp [hx]), λx hx => XM.row x (by simp [hx]), λx hx => XM.row x (by simp [hx])⟩
        · obtain ⟨M1, M2, M3, a1, a2, a3, b1, b2, b3, R1, R2, R3⟩ := (X.mix.weak (C' := λ_ => Dr (2 ^ c)) λ_ _ y h => ⟨ai h.1 hc, ai h.2 hc⟩).fr3;rw [lws] at b2;rw [lvs] at b3;have up : ∀ {M k : Nat}, M ≤ 2 ^ (c * k) → k ≤ (n + i + o) * n → M ≤ 2 ^ 800 := λh hk => ai h (au (by decide) (ai (aM _ hk) hcM))
          exact ⟨M1, M2, M3, 2 ^ c, ⟨a1, up b1 (aG _ (by lia))⟩, ⟨a2, up b2 (aG _ (by lia))⟩, ⟨a3, up b3 (aG _ (by lia))⟩, au (by decide) hc20, .inr ⟨by lia, b1, b2, b3, rfl⟩, R1, R2, R3⟩
      obtain ⟨μ, e2, e3, e1, e4⟩ := FY ws vs M1 M2 M3;obtain ⟨ap1, ap2⟩ := X.mix.apart
      have XM : iN K A Hj n (λx => Fr (μ x) V0) m p l b q0 us ws vs := by
        refine ⟨X.mix.bag, X.mix.inn, X.mix.gm, X.mix.gp, X.mix.gl, X.mix.lm, λx hx => ?_, X.mix.nd⟩;rcases az.mp hx with hx | hx
        · rcases az.mp hx with hx | hx
          · rw [e1 x (ap1 x hx).1 (ap1 x hx).2]; exact R1 x hx
          · rw [e3 x hx (ap2 x hx)]; exact R3 x hx
        · rw [e2 x hx]; exact R2 x hx
      have p1 : ∀ x, 0 < μ x := λx => by
        rcases e4 x with e | e | e
        · rw [e]; exact a1.1
        · rw [e]; exact a2.1
        · rw [e]; exact a3.1
      have p2 : ∀ x, μ x ≤ 2 ^ 800 := λx => by
        rcases e4 x with e | e | e
        · rw [e]; exact a1.2
        · rw [e]; exact a2.2
        · rw [e]; exact a3.2
      have gmj := X.mix.gm;exists ⟨b, m, p, l, q0, n, V0, μ, A, us, ws, vs, rfl, MA, XM, n8, by lia, by lia, p1, p2, ⟨M1, e1⟩, V2, λq hq => ?_, λr us' H' g Y kp => ?_⟩
      · refine mkA ?_ (λz => by rw [z, gmj] at hq; cases hq) (λz => by rw [z, X.gp] at hq; cases hq) (λz => by rw [z, X.gl] at hq; cases hq);cases e : H q with
        | none => rfl
        | some u =>
          have := X.kp q u e (λz => X.mix.bag.at (by rw [<- z]; exact hq)) (λz => by have := (unA z).1; rw [e] at this; cases this) (λz => by rw [z, hm0] at e; cases e);rw [hq] at this; cases this
      · obtain ⟨yp1, yp2⟩ := Y.apart;obtain ⟨mv, Gm, lmv, hmv⟩ := i8 (H0 := H) (n := n) (C := Fr M1 (9 ^ 3 * V0)) (m := n) ⟨us', Y.gm, Y.lm, MA.am, λx hx => by have := Y.row x (by simp [hx]); rwa [e1 x (yp1 x hx).1 (yp1 x hx).2] at this⟩ λq h => (unA h).1
        obtain ⟨pt, Gp, lpt, hpt⟩ := i8 (H0 := H) (n := n) (C := Fr M2 (9 ^ 3 * V0)) (m := i) ⟨ws, Y.gp, lws, MA.ap, λx hx => by have := Y.row x (by simp [hx]); rwa [e2 x hx] at this⟩ λq h => (unA h).1
        obtain ⟨lk, Gl, llk, hlk⟩ := i8 (H0 := H) (n := n) (C := Fr M3 (9 ^ 3 * V0)) (m := o) ⟨vs, Y.gl, lvs, MA.al, λx hx => by have := Y.row x (by simp [hx]); rwa [e3 x hx (yp2 x hx)] at this⟩ λq h => (unA h).1
        refine k r mv pt lk H' ⟨m, p, l, g, hm0, hp0, hl0, Gm, Gp, Gl⟩ lmv lpt llk ⟨by lia, by lia, by lia, λxs hx => by rw [(hmv xs hx).1, lmv], λxs hx => by rw [(hpt xs hx).1, lmv], λxs hx => by rw [(hlk xs hx).1, lmv]⟩ ⟨M1, M2, M3, 9 ^ 3 * V0, a1.1, a2.1, a3.1, λxs hx => (hmv xs hx).2, λxs hx => (hpt xs hx).2, λxs hx => (hlk xs hx).2, ?_⟩ Y.bag ⟨λc' u e n1 => (X.kp.trans kp) c' u e n1 (λz => by have := (unA z).1; rw [e] at this; cases this) (λz => by rw [z, hm0] at e; cases e), λq h => by rw [<- Inner.inj I0 h]; exact Y.inn⟩;rcases hcs with ⟨b1, b2, b3, b4, b5⟩ | ⟨b1, b2, b3, b4, b5⟩
        · exact .inl ⟨b1, b2, b3, b4, by rw [b5]⟩
        · exact .inr ⟨b1, b2, b3, b4, by rw [b5]⟩
theorem fM:a9 ["_law_bag_here","_law_n","_law_ins","_law_outs","_law_wide"] ["_law_bag_here"] (aI kC):=by walk_at "d"
theorem v7 (T:Txt K mg Z):cE P w K mg base fA 6 Z.oX Z.oR ["_law_bag_here"] (Ic K):=by
 refine T.jV.F.ok fM (λvs H Q E h=>?_) (λcdv A outer s H vs Q E hr h=>?_)
 ·obtain ⟨b,rfl,_⟩:=h;rfl
 ·obtain ⟨b,rfl,hB,k⟩:=h
  refine ⟨_,(ao (eQ (cv (xB T) hr T.kN (ae (pv 0) ag)) (rY rfl (cB (aN (i:=1) fM.nd) (cB (aN (i:=2) fM.nd) (cB (aN (i:=3) fM.nd) (cB (aN (i:=4) fM.nd) gK))))))
   (ao (c5 (bu eH (cv (aX T) hr T.aO (ae (pv 0) (ae aj ag))) aj (bG _)) (ao (c5 (bu eH (cv (aX T) hr T.aO (ae (pv 0) (ae aj ag))) aj (bG _)) (aw (a8 (cL (ae (cv (qj T) hr T.iE (ae (pv 0) ag)) (ae aj ag))))) bT)
   (aw (a8 (cL (ae (cv (lZ T) hr T.iG (ae (pv 0) (ae (bp dG aj (cv (aX T) hr T.aO (ae (pv 0) (ae aj ag)))) ag))) (ae aj ag)))))) bT)
   (aw (a8 (cL (ae (cv (xC T) hr T.kO (ae (pv 0) (ae (pv 1) (ae (pv 2) (ae (pv 3) (ae (pv 4) ag)))))) (ae (bO (oF rfl) (by rfl) T.min PyProof.Rows.boot_min (ae (pv 4) (ae aj ag))) ag))))))),?_⟩
  refine aQ (σ:=[some (.ref b),none,none,none,none]) rfl ?_;have sf:∀{mv pt lk:LR9} {M V1:Nat},0 < M->M<=2^400->V1<=2^30->GF M V1 mv->GF M V1 pt->GF M V1 lk->E7 mv pt lk:=λh0 h1 h2 a b c=>⟨_,_,h0,h1,ai h2 (au (by decide) (by decide)),a,b,c⟩
  exists ⟨b,rfl,hB,λr n i o w H1 g1 n5 i4 o4 hw h5 B1 u1=>?_⟩;exists ⟨b,16,rfl,B1,by decide,by decide,λv H2 v0 v1 B2 u2=>?_⟩;have u02:=u1.trans u2;exists gC (λh0=>?_) (λh0=>?_)
  ·exists ⟨b,2,rfl,B2,by decide,by decide,λv2 H3 _ _ B3 u3=>?_⟩;have u03:=u02.trans u3;exists gC (λh1=>?_) (λh1=>?_)
   ·exists ⟨b,rfl,B3,λr4 mv pt lk H4 P4 l6 D fm fp fl B4 u4=>?_⟩;exists bW λt H5 s5 g5=>?_
    exact k t r4 4 0 13 mv pt lk H5 g5 ((P4.weak λq h=>u03.none B3 h).same s5) D (sf (by decide) cn (by decide) fm fp fl) (uV (n0:=8) (by decide) (by decide) D.n8 (by decide) fm fp (by decide)) (.inl ⟨by decide,by decide,by decide,by decide,by decide,fm,fp,ai (aG _ (show mv.length+4<=12 by have:=D.n8;lia)) (by decide)⟩) (by decide) (by decide) (B4.same s5) ((u03.trans u4).same s5)
   ·exists ⟨b,3,rfl,B3,by decide,by decide,λv3 H4 v30 v31 B4 u4=>?_⟩;obtain ⟨v3,rfl⟩:=cy v30;have u04:=u03.trans u4;walk_at "w";rw[show ((6:Int)+(v3:Int))=((6+v3:Nat):Int) by lia];refine ⟨b,6+v3,rfl,B4,by lia,by lia,λr4 mv pt lk H5 P5 lm _ _ D fm fp fl B5 u5=>?_⟩;exists bW λt H6 s6 g6=>?_
    exact k t r4 4 0 4 mv pt lk H6 g6 ((P5.weak λq h=>u04.none B4 h).same s6) D (sf (by decide) cn (by decide) fm fp fl) (uV (n0:=8) (by decide) (by decide) D.n8 (by decide) fm fp (by decide)) (.inl ⟨by decide,by decide,by decide,by decide,by decide,(λxs hx x hx'=>(fm xs hx x hx').mono (by decide)),(λxs hx x hx'=>(fp xs hx x hx').mono (by decide)),ai (aG _ (show mv.length+4<=12 by have:=D.n8;lia)) (by decide)⟩) (by decide) (by decide) (B5.same s6) ((u04.trans u5).same s6)
  ·obtain ⟨c,hc,hc20,hcM⟩:∃c:Nat,max w 6<=2^c/\c<=20/\c*((n+i+o)*n)<=800/\(9 < w->c=20/\(n+i+o)*n<=20/\n<=2):=by
    have m1:(n+i+o)*n<=13*5:=aF (by lia) n5;rcases hw with rfl | rfl | ⟨rfl,n2⟩
    ·exact ⟨4,by decide,by decide,by lia,λz=>by lia⟩
    ·exact ⟨4,by decide,by decide,by lia,λz=>by lia⟩
    ·have m2:(n+i+o)*n<=10*2:=aF (by lia) n2;exact ⟨20,by decide,by decide,by lia,λ_=>⟨rfl,by lia,n2⟩⟩
   obtain ⟨hcM,hbig⟩:=hcM;exists ⟨b,n,i,o,w,c,rfl,B2,by lia,i4,o4,by lia,by lia,hc,hc20,hcM,λr4 mv pt lk H4 P4 lm lp ll D PF B4 u4=>?_⟩;have hmin:(if (1000:Int) < (w:Int) then (1000:Int) else (w:Int))=((min w 1000:Nat):Int):=by split <;> lia
   have PG:=PF;obtain ⟨M,V1,M0,fm,fp,fl,hcs⟩:=PF.n
   obtain ⟨a',c',KF,SF⟩:∃a' c',Lp mv pt a' c'/\E7 mv pt lk:=by
    rcases hcs with ⟨w9,rfl,rfl⟩ | ⟨w9,M1,rfl⟩
    ·exact ⟨12,16,uV (n0:=5) (by decide) (by decide) (by lia) (by decide) fm fp (by decide),sf (by decide) (ai (show 2520<=2^12 by decide) (au (by decide) (by decide))) (by decide) fm fp fl⟩
    ·obtain ⟨rfl,e1,e2⟩:=hbig w9;have M4:M<=2^400:=ai M1 (au (by decide) (by lia));exact ⟨400,32,uV (n0:=2) M0 M4 (by lia) (by decide) fm fp (by decide),sf M0 M4 (by decide) fm fp fl⟩
   have RG:Rg mv pt (min w 1000):=by
    obtain ⟨M1,M2,M3,V1,a1,a2,a3,f1,f2,f3,hc'⟩:=PG;rcases hc' with ⟨w9,rfl,rfl,_,rfl⟩ | ⟨w9,b1,b2,_,rfl⟩
    ·exact .inr (.inl ⟨by lia,by lia,by decide,by decide,by decide,by decide,f1,f2,ai (aG _ (show mv.length+4<=9 by lia)) (by decide)⟩)
    ·obtain ⟨rfl,e1,e2⟩:=hbig w9;have q1:n*n<=2*2:=aF e2 e2;have q2:i*n<=4*2:=aF i4 e2;have w6:w=1000000:=by lia
     exact .inr (.inr ⟨by lia,by lia,M1,M2,a1,a2,ai b1 (au (by decide) (by lia)),ai b2 (au (by decide) (by lia)),f1,f2,ai (aG _ (show mv.length+4<=6 by lia)) (by decide)⟩)
   exists bW λt H5 s5 g5=>?_
   rw[hmin] at g5;exact k t r4 (min w 1000) a' c' mv pt lk H5 g5 ((P4.weak λq h=>u02.none B2 h).same s5) D SF KF RG (by lia) (by lia) (B4.same s5) ((u02.trans u4).same s5)
theorem yW:a9 ["thing","at","most"] ["thing","at","most"] (aI mX):=by walk_at "d"
theorem lY (T:Txt K mg Z):cE P w K mg base fA 1 Z.uj Z.tR ["thing","at","most"] C0:=by
 refine T.iD.F.ok yW (λvs H Q E h=>?_) (λcdv A outer s H vs Q E hr h=>?_)
 ·obtain ⟨p,xs,a,m,rfl,_⟩:=h;rfl
 ·obtain ⟨p,xs,a,m,rfl,gx,hm,k⟩:=h
  refine ⟨_,(ao (c5 (rS (rR (zj rfl T.isinstance PyProof.Rows.boot_list T.list (pv 0)))) (aw Dj) bT)
   (aw (c5 (bu tN (bO bD (by rfl) T.len bB (ae (pv 0) ag)) (pv 2) (bG _)) (aw Dj) bT))),?_⟩
  refine aQ (σ:=[some (.ref p),some (.int a),some (.int m)]) rfl ?_;exists ⟨_,_,.lst gx,rfl,?_⟩;exists ⟨_,_,rfl,.inl (bL.of gx),?_⟩;walk_at "w";rw[decide_eq_false (show ¬m < (xs.length:Int) by lia)];exists k
theorem Av:a9 ["thing"] ["thing"] (aI pe):=by walk_at "d"
theorem tO (T:Txt K mg Z):cE P w K mg base fA 1 Z.wZ Z.wM ["thing"] Ej:=by
 refine T.kb.F.ok Av (λvs H Q E h=>?_) (λcdv A outer s H vs Q E hr h=>?_)
 ·obtain ⟨i,rfl,_⟩:=h;rfl
 ·obtain ⟨i,rfl,k⟩:=h;refine ⟨_,(aw (a8 (BX (zj rfl T.isinstance PyProof.Rows.boot_int T.int (pv 0)) (BW (KW (zj rfl T.isinstance PyProof.Rows.boot_bool T.bool (pv 0))))))),?_⟩;refine aQ (σ:=[some (.int i)]) rfl ?_;exists ⟨_,_,.int i,rfl,?_⟩;exists ⟨_,_,.int i,rfl,?_⟩;exists k
theorem fE:a9 ["one","other","rest"] ["one","other"] (aI iR):=by walk_at "d"
theorem iB (T:Txt K mg Z):cE P w K mg base fA 1 Z.lA Z.k6 ["one","other"] LV:=by
 refine T.d9.F.ok fE (λvs H Q E h=>?_) (λcdv A outer s H vs Q E hr h=>?_)
 ·obtain ⟨a,b,rfl,_⟩:=h;rfl
 ·obtain ⟨a,b,rfl,k⟩:=h
  refine ⟨_,(ao (AG PassesOwn.never (bu yd (pv 1) aj (bG _))
    (ao (aU (i:=2) fE.nd rfl (Or.inl rfl) (bp IZ (pv 0) (pv 1)))
   (ao (aU (i:=0) fE.nd rfl (Or.inl rfl) (pv 1))
   (aw (aU (i:=1) fE.nd rfl (Or.inl rfl) (pv 2))))))
   (aw (a8 (bO qQ (by rfl) T.abs PyProof.Rows.boot_abs (ae (pv 0) ag))))),?_⟩
  refine aQ (σ:=[some (.int a),some (.int b),none]) rfl ?_;exists CP (λσ' H'=>∃(u v:Int) (r:Option V),σ'=[some (.int u),some (.int v),r]/\H'=H/\Int.gcd u v=Int.gcd a b) (λσ' _=>match σ' with | [_,some (.int v),_]=>v.natAbs | _=>0) ⟨a,b,none,rfl,rfl,rfl⟩ ?_;rintro σ' H' ⟨u,v,r,rfl,rfl,hg⟩;exists gC (λh=>?_) (λh=>?_)
  ·have hv:v≠0:=λz=>by subst z;simp at h
   exists eC (show v≠0 from hv) ?_;exists ⟨⟨v,u.fmod v,_,rfl,rfl,(Gi u v).trans hg⟩,Jn u v hv⟩
  ·have hv:v=0:=by
    by_cases z:v=0
    ·exact z
    ·exfalso;apply h;simp [z]
   subst hv;walk_at "w"
   have e:(if u < 0 then -u else u)=g a b:=by
    unfold g;rw[<- hg,Int.gcd_zero_right]
    split <;> lia
   rw[e];exact k
theorem y7:a9 ["thing"] ["thing"] (aI m5):=by walk_at "d"
theorem zo (T:Txt K mg Z):cE P w K mg base fA 2 Z.ur Z.tV ["thing"] (Em K):=by
 refine T.l8.F.ok y7 (λvs H Q E h=>?_) (λcdv A outer s H vs Q E hr h=>?_)
 ·obtain ⟨x,n,rfl,_⟩:=h;rfl
 ·obtain ⟨x,n,rfl,⟨p,rfl,hp⟩,hn,k⟩:=h
  refine ⟨_,(ao (c5 (PW.pt (tH (rS (rR (IW rfl T.isinstance PyProof.Rows.boot_tuple T.tuple (pv 0)))) (nI (bu yd (bO bD (by rfl) T.len bB (ae (pv 0) ag)) aj (bG _))))) (aw (a8 yb)) bT)
   (ao (c5 (PW.pt (tH (rS (rR (cv (tO T) hr T.kb (ae (aS bC (pv 0) aj) ag)))) (nI (rS (rR (cv (tO T) hr T.kb (ae (aS bC (pv 0) aj) ag))))))) (aw (a8 yb)) bT)
   (aw (a8 (BX (jC vV (aS bC (pv 0) aj) aj (bG _)) (BW (jC eH (cv (iB T) hr T.d9 (ae (aS bC (pv 0) aj) (ae (aS bC (pv 0) aj) ag))) aj (bG _)))))))),?_⟩
  refine aQ (σ:=[some (.ref p)]) rfl ?_;obtain ⟨hb,hg,s1,s2⟩:=hn;exists .inr ⟨p,_,_,rfl,hp,rfl,?_⟩;exists ⟨_,_,rfl,.inr hp,?_⟩;walk_at "w"
  try refine K7 ?_
  exists ⟨n.1,rfl,?_⟩;exists ⟨n.2,rfl,?_⟩;walk_at "w";rw[decide_eq_true (show (1:Int)<=n.2 by lia)];exists ⟨n.1,n.2,rfl,?_⟩;walk_at "w";have e:g n.1 n.2=1:=by unfold g;rw[hg];rfl
  rw[e,decide_eq_true rfl];exact k _ (aH.refl _)
theorem Ep:a9 ["thing","many"] ["thing","many"] (aI vJ):=by walk_at "d"
theorem EC (T:Txt K mg Z):cE P w K mg base fA 3 Z.Bj Z.A2 ["thing","many"] (xX K):=by
 refine T.sk.F.ok Ep (λvs H Q E h=>?_) (λcdv A outer s H vs Q E hr h=>?_)
 ·obtain ⟨p,ns,rfl,_⟩:=h;rfl
 ·obtain ⟨p,ns,rfl,hp,hl,hn,k⟩:=h
  refine ⟨_,(ao (c5 (PW.pt (tH (rS (rR (zj rfl T.isinstance PyProof.Rows.boot_list T.list (pv 0)))) (nI (bu yd (bO bD (by rfl) T.len bB (ae (pv 0) ag)) (pv 1) (bG _))))) (aw (a8 yb)) bT)
   (aw (a8 (bO (GO rfl) (by rfl) T.all PyProof.Rows.boot_all (ae (b7 ["value"] [] [] (cw (pv 0)) (λ_=>(aN (i:=0) (show ND9 ["value"] by decide +kernel))) (λ_=>b8) (λ_=>(cv (zo T) hr T.l8 (ae (pv 0) ag)))) ag))))),?_⟩
  refine aQ (σ:=[some (.ref p),some (.int ns.length)]) rfl ?_;obtain ⟨xs,gx,qx⟩:=id hp;have lx:=qx.length;exists ⟨_,_,.lst gx,rfl,?_⟩;exists ⟨_,_,rfl,.inl (bL.of gx),?_⟩;walk_at "w";rw[show ((xs.length:Nat):Int)=(ns.length:Nat) by rw[lx],decide_eq_true rfl];exists ⟨⟨_,bL.of gx⟩,?_⟩;refine fW (K:=K) (xs:=xs) (λi ys H'=>aH H H'/\ys=List.replicate i (.bl true)) (bf (bK (by lia))) ⟨aH.refl _,rfl⟩ (λi ys H' _ ⟨s,_⟩=>bL.of (s _ _ gx)) ?_ ?_
  ·rintro i x ys H' hx hlen ⟨s,rfl⟩;obtain ⟨n,en,z⟩:=ck qx hx;exists ⟨x,n,rfl,s.num z,hn n (ar en),λH2 s2=>⟨s.trans s2,by rw[List.replicate_succ']⟩⟩
  ·rintro ys H' hy ⟨s,rfl⟩ l hl';exists ⟨l,List.replicate xs.length true,rfl,bL.of (by rw[aJ];simp),?_⟩;have e4:(List.replicate xs.length true).all id=true:=by simp
   rw[e4];exact k _ (s.trans (aH.new hl'))
theorem jN:a9 ["things","wide","place","thing"] ["things","wide"] (aI kB):=by walk_at "d"
theorem jS (T:Txt K mg Z):cE P w K mg base fA 4 Z.oW Z.oQ ["things","wide"] (C8 K):=by
 refine T.fP.F.ok jN (λvs H Q E h=>?_) (λcdv A outer s H vs Q E hr h=>?_)
 ·obtain ⟨p,H0,rows,w,rfl,_⟩:=h;rfl
 ·obtain ⟨p,H0,rows,w,rfl,hp,hl,hw,hn,k⟩:=h
  refine ⟨_,(ao (dU PassesOwn.never rfl (IT rfl T.enumerate (ae (pv 0) ag)) (rY rfl (cB (aN (i:=2) jN.nd) (cB (aN (i:=3) jN.nd) gK)))
    (aw (c5 (rS (rR (cv (EC T) hr T.sk (ae (pv 3) (ae (pv 1) ag))))) (aw Dj) bT)))
   (aw (a8 (b7 ["row"] [] [] (cw (pv 0)) (λ_=>(aN (i:=0) (show ND9 ["row"] by decide +kernel))) (λ_=>b8) (λ_=>(fz (kR K (by rfl)) (by rfl) T.list PyProof.Rows.boot_list (ae (pv 0) ag))))))),?_⟩
  refine aQ (σ:=[some (.ref p),some (.int w),none,none]) rfl ?_;obtain ⟨xs,gx,qx,_⟩:=id hp;exists ⟨⟨_,bL.of gx⟩,?_⟩;refine Gn (K:=K) (l:=p) (xs:=xs) (λi σ' H'=>aH H H'/\∃x y,σ'=[some (.ref p),some (.int w),x,y]) ⟨aH.refl _,none,none,rfl⟩ (λi σ' H' _ ⟨s,_⟩=>bL.of (s _ _ gx)) ?_ ?_
  ·rintro i x σ' H' t hx ⟨s,x1,y1,rfl⟩ ht;obtain ⟨qs,eq,q,rfl,_,Rq⟩:=ck qx hx;have hm:=ar eq;have st:aH H' (upd H' t (.tup [.int i,.ref q])):=aH.new ht;have gt:(upd H' t (.tup [.int i,.ref q])) t=some (.tup [.int i,.ref q]):=aJ;have s2:=s.trans st;generalize upd H' t (.tup [.int i,.ref q])=H2 at st gt s2 ⊢;have lq:(qs.map nm).length=w:=by rw[ak];exact (hn qs hm).1
   exists ⟨q,_,by rw[lq],(Rq.same s2).rowK,by rw[lq];exact hw,λn hn'=>?_,λH3 s3=>?_⟩
   ·obtain ⟨y,hy,rfl⟩:=ay.mp hn';exact (hn qs hm).2 y hy
   exists ⟨s2.trans s3,_,_,rfl⟩
  ·rintro σ' H' ⟨s,x1,y1,rfl⟩;exists ⟨⟨_,bL.of (s _ _ gx)⟩,?_⟩;refine dd (K:=K) (F:=dA K H0) (dA K H) id (s _ _ gx) (Paired.imp' (λ_ _ z=>z.same s) qx) hl (λa b=>a.same b) (λa b=>a.same b) ?_ ?_
   ·rintro i ns x H2 NY NN en s2 ⟨u,rfl,_,zs,gz,qz⟩ k1;exists ⟨u,zs,rfl,.inl (bL.of gz),λl1 hl1=>?_⟩;exact k1 _ _ (aH.new hl1) ⟨l1,rfl,s.none (s2.none hl1),zs,aJ,Paired.imp' (λ_ _ z=>z.same (aH.new hl1)) qz⟩
   ·rintro ys' H2 r hr s2 g pr nx;rw[j3] at pr nx;exact k r H2 (s.none hr) (s.trans s2) ⟨ys',g,pr,kW nx⟩
theorem o9:a9 ["self","move","put","look"] ["self","move","put","look"] (aI dF):=by walk_at "d"
theorem pL (T:Txt K mg Z):cE P w K mg base fA 5 Z.iL Z.iJ ["self","move","put","look"] (C3 K Z.a_System):=by
 refine T.kj.ok o9 (λvs H Q E h=>?_) (λcdv A outer s H vs Q E hr h=>?_)
 ·obtain ⟨x,dx,p,q,r,Hb,H0,H1,H2,mv,pt,lk,rfl,_⟩:=h;rfl
 ·obtain ⟨x,dx,p,q,r,Hb,H0,H1,H2,mv,pt,lk,rfl,nx,ndx,nex,rfl,gp,gq,gr,D,om,op,ol,k⟩:=h
  refine ⟨_,(ao (ir (cv (lY T) hr T.iD (ae (pv 1) (ae aj (ae (p9 (v:=.int 8) rfl T.mg_MOST_STATES ⟨_,rfl⟩) ag)))))
   (ao (rT (pv 0) (cv (jS T) hr T.fP (ae (pv 1) (ae (bO bD (by rfl) T.len bB (ae (pv 1) ag)) ag))) rfl)
   (ao (rT (pv 0) (bO bD (by rfl) T.len bB (ae (jt (pv 0) rfl) ag)) rfl)
   (ao (ir (cv (lY T) hr T.iD (ae (pv 2) (ae aj (ae (p9 (v:=.int 4) rfl T.mg_MOST_PUTS ⟨_,rfl⟩) ag)))))
   (ao (rT (pv 0) (cv (jS T) hr T.fP (ae (pv 2) (ae (jt (pv 0) rfl) ag))) rfl)
   (ao (rT (pv 0) (bO bD (by rfl) T.len bB (ae (jt (pv 0) rfl) ag)) rfl)
   (ao (ir (cv (lY T) hr T.iD (ae (pv 3) (ae aj (ae (p9 (v:=.int 4) rfl T.mg_MOST_LOOKS ⟨_,rfl⟩) ag)))))
   (ao (rT (pv 0) (cv (jS T) hr T.fP (ae (pv 3) (ae (jt (pv 0) rfl) ag))) rfl)
   (aw (rT (pv 0) (bO bD (by rfl) T.len bB (ae (jt (pv 0) rfl) ag)) rfl)))))))))),?_⟩
  refine aQ (σ:=[some (.ref x),some (.ref p),some (.ref q),some (.ref r)]) rfl ?_
  have s0:aH Hb (upd (upd Hb dx (.own x)) x (.ins Z.a_System dx [])):=λb o e=>by
   rw[br (eE e nx),br (eE e ndx)];exact e
  have hx:(upd (upd Hb dx (.own x)) x (.ins Z.a_System dx [])) x=some (.ins Z.a_System dx []):=aJ;have back:∀{b},(upd (upd Hb dx (.own x)) x (.ins Z.a_System dx [])) b=none->Hb b=none:=λh=>s0.none h
  generalize upd (upd Hb dx (.own x)) x (.ins Z.a_System dx [])=Ha at s0 hx back ⊢;obtain ⟨xs,gx,qx,_⟩:=id gp;obtain ⟨ys,gy,qy,_⟩:=id gq;obtain ⟨zs,gz,qz,_⟩:=id gr;have lx:=qx.length;have ly:=qy.length;have lz:=qz.length;have d1:=D.n8;have d2:=D.i4;have d3:=D.o4;exists ⟨p,xs,0,8,rfl,s0 _ _ gx,by lia,?_⟩;exists ⟨_,_,rfl,.inl (bL.of (s0 _ _ gx)),?_⟩;exists ⟨p,H0,mv,mv.length,by rw[lx],gp.same s0,by lia,by lia,λws hw=>⟨D.mw ws hw,om ws hw⟩,λa H3 na s3 Ga=>?_⟩;have hx3:=s3 _ _ hx;exists ⟨x,Z.a_System,dx,_,rfl,hx3,T.cl_System,T.na_move,(by show 0 < 1000;decide),?_⟩;have e3:zW x H3 (upd H3 x (.ins Z.a_System dx (bU "move" (.ref a) []))):=zW.upd;have i3:o3 H3 x:=⟨_,_,_,hx3⟩;have hx4:(upd H3 x (.ins Z.a_System dx (bU "move" (.ref a) []))) x=some (.ins Z.a_System dx (bU "move" (.ref a) [])):=aJ;have Ga4:=Ga.exc e3 i3;have k4:aH Hb (upd H3 x (.ins Z.a_System dx (bU "move" (.ref a) []))):=(s0.trans s3).after nx;generalize upd H3 x (.ins Z.a_System dx (bU "move" (.ref a) []))=H4 at e3 hx4 Ga4 k4 ⊢;exists ⟨x,Z.a_System,dx,_,_,rfl,hx4,T.cl_System,T.na_move,(by rw[bo,if_pos rfl]),?_⟩;obtain ⟨as,ga,qa,_⟩:=id Ga4;have la:=qa.length;exists ⟨_,_,rfl,.inl (bL.of ga),?_⟩;exists ⟨x,Z.a_System,dx,_,rfl,hx4,T.cl_System,T.na_states,be dH (by show 1 < 1000;decide),?_⟩;rw[show ((as.length:Nat):Int)=((mv.length:Nat):Int) by rw[la]];have e4:zW x H4 (upd H4 x (.ins Z.a_System dx (bU "states" (.int mv.length) (bU "move" (.ref a) [])))):=zW.upd;have i4:o3 H4 x:=⟨_,_,_,hx4⟩;have hx5:(upd H4 x (.ins Z.a_System dx (bU "states" (.int mv.length) (bU "move" (.ref a) [])))) x=some (.ins Z.a_System dx (bU "states" (.int mv.length) (bU "move" (.ref a) []))):=aJ;have Ga5:=Ga4.exc e4 i4;have k5:aH Hb (upd H4 x (.ins Z.a_System dx (bU "states" (.int mv.length) (bU "move" (.ref a) [])))):=k4.after nx;generalize upd H4 x (.ins Z.a_System dx (bU "states" (.int mv.length) (bU "move" (.ref a) [])))=H5 at e4 hx5 Ga5 k5 ⊢;clear e3 e4 i3 i4 hx4 Ga4 ga qa;exists ⟨q,ys,1,4,rfl,k5 _ _ gy,by lia,?_⟩;exists ⟨x,Z.a_System,dx,_,_,rfl,hx5,T.cl_System,T.na_states,(by rw[bo,if_pos rfl]),?_⟩;exists ⟨q,H1,pt,mv.length,rfl,gq.same k5,by lia,by lia,λws hw=>⟨D.pw ws hw,op ws hw⟩,λb H6 nb s6 Gb=>?_⟩;have hx6:=s6 _ _ hx5;have i6:o3 H6 x:=⟨_,_,_,hx6⟩;exists ⟨x,Z.a_System,dx,_,rfl,hx6,T.cl_System,T.na_put,be dH (be (dn dH) (by show 2 < 1000;decide)),?_⟩;have e6:zW x H6 (upd H6 x (.ins Z.a_System dx (bU "put" (.ref b) (bU "states" (.int mv.length) (bU "move" (.ref a) []))))):=zW.upd;have hx7:(upd H6 x (.ins Z.a_System dx (bU "put" (.ref b) (bU "states" (.int mv.length) (bU "move" (.ref a) []))))) x=some (.ins Z.a_System dx (bU "put" (.ref b) (bU "states" (.int mv.length) (bU "move" (.ref a) [])))):=aJ;have Ga7:=(Ga5.same s6).exc e6 i6;have Gb7:=(Gb.weak k5).exc e6 i6;have k7:aH Hb (upd H6 x (.ins Z.a_System dx (bU "put" (.ref b) (bU "states" (.int mv.length) (bU "move" (.ref a) []))))):=(k5.trans s6).after nx;generalize upd H6 x (.ins Z.a_System dx (bU "put" (.ref b) (bU "states" (.int mv.length) (bU "move" (.ref a) []))))=H7 at e6 hx7 Ga7 Gb7 k7 ⊢;obtain ⟨bs,gb,qb,_⟩:=id Gb7;have lb:=qb.length;exists ⟨x,Z.a_System,dx,_,_,rfl,hx7,T.cl_System,T.na_put,(by rw[bo,if_pos rfl]),?_⟩;exists ⟨_,_,rfl,.inl (bL.of gb),?_⟩;exists ⟨x,Z.a_System,dx,_,rfl,hx7,T.cl_System,T.na_ins,be dH (be (dn (ai dH (dn dH))) (by show 3 < 1000;decide)),?_⟩;rw[show ((bs.length:Nat):Int)=((pt.length:Nat):Int) by rw[lb]];have i7:o3 H7 x:=⟨_,_,_,hx7⟩;have e7:zW x H7 (upd H7 x (.ins Z.a_System dx (bU "ins" (.int pt.length) (bU "put" (.ref b) (bU "states" (.int mv.length) (bU "move" (.ref a) [])))))):=zW.upd;have hx8:(upd H7 x (.ins Z.a_System dx (bU "ins" (.int pt.length) (bU "put" (.ref b) (bU "states" (.int mv.length) (bU "move" (.ref a) [])))))) x=some (.ins Z.a_System dx (bU "ins" (.int pt.length) (bU "put" (.ref b) (bU "states" (.int mv.length) (bU "move" (.ref a) []))))):=aJ;have Ga8:=Ga7.exc e7 i7;have Gb8:=Gb7.exc e7 i7;have k8:aH Hb (upd H7 x (.ins Z.a_System dx (bU "ins" (.int pt.length) (bU "put" (.ref b) (bU "states" (.int mv.length) (bU "move" (.ref a) [])))))):=k7.after nx;generalize upd H7 x (.ins Z.a_System dx (bU "ins" (.int pt.length) (bU "put" (.ref b) (bU "states" (.int mv.length) (bU "move" (.ref a) [])))))=H8 at e7 hx8 Ga8 Gb8 k8 ⊢;clear e6 e7 i6 i7 hx7 Ga7 Gb7 gb qb;exists ⟨r,zs,2,4,rfl,k8 _ _ gz,by lia,?_⟩;exists ⟨x,Z.a_System,dx,_,_,rfl,hx8,T.cl_System,T.na_states,(by rw[bo,if_neg (by decide +kernel),bo,if_neg (by decide +kernel),bo,if_pos rfl]),?_⟩;exists ⟨r,H2,lk,mv.length,rfl,gr.same k8,by lia,by lia,λws hw=>⟨D.lw ws hw,ol ws hw⟩,λc H9 nc s9 Gc=>?_⟩;have hx9:=s9 _ _ hx8;have i9:o3 H9 x:=⟨_,_,_,hx9⟩;exists ⟨x,Z.a_System,dx,_,rfl,hx9,T.cl_System,T.na_look,be dH (be (dn (ai dH (dn (ai dH (dn dH))))) (by show 4 < 1000;decide)),?_⟩;have e9:zW x H9 (upd H9 x (.ins Z.a_System dx (bU "look" (.ref c) (bU "ins" (.int pt.length) (bU "put" (.ref b) (bU "states" (.int mv.length) (bU "move" (.ref a) []))))))):=zW.upd;have hxA:(upd H9 x (.ins Z.a_System dx (bU "look" (.ref c) (bU "ins" (.int pt.length) (bU "put" (.ref b) (bU "states" (.int mv.length) (bU "move" (.ref a) []))))))) x=some (.ins Z.a_System dx (bU "look" (.ref c) (bU "ins" (.int pt.length) (bU "put" (.ref b) (bU "states" (.int mv.length) (bU "move" (.ref a) [])))))):=aJ;have GaA:=(Ga8.same s9).exc e9 i9;have GbA:=(Gb8.same s9).exc e9 i9;have GcA:=(Gc.weak k8).exc e9 i9;have kA:aH Hb (upd H9 x (.ins Z.a_System dx (bU "look" (.ref c) (bU "ins" (.int pt.length) (bU "put" (.ref b) (bU "states" (.int mv.length) (bU "move" (.ref a) []))))))):=(k8.trans s9).after nx;generalize upd H9 x (.ins Z.a_System dx (bU "look" (.ref c) (bU "ins" (.int pt.length) (bU "put" (.ref b) (bU "states" (.int mv.length) (bU "move" (.ref a) []))))))=HA at e9 hxA GaA GbA GcA kA ⊢;obtain ⟨cs,gc,qc,_⟩:=id GcA;have lc:=qc.length;exists ⟨x,Z.a_System,dx,_,_,rfl,hxA,T.cl_System,T.na_look,(by rw[bo,if_pos rfl]),?_⟩;exists ⟨_,_,rfl,.inl (bL.of gc),?_⟩;exists ⟨x,Z.a_System,dx,_,rfl,hxA,T.cl_System,T.na_outs,be dH (be (dn (ai dH (dn (ai dH (dn (ai dH (dn dH))))))) (by show 5 < 1000;decide)),?_⟩;rw[show ((cs.length:Nat):Int)=((lk.length:Nat):Int) by rw[lc]];have iA:o3 HA x:=⟨_,_,_,hxA⟩;exact k _ (kA.after nx) ⟨dx,a,b,c,aJ,back na,k5.none nb,k8.none nc,(GaA.exc zW.upd iA).weak s0,GbA.exc zW.upd iA,GcA.exc zW.upd iA⟩
theorem vE:a9 ["_law_grid"] ["_law_grid"] (aI kE):=by walk_at "d"
theorem jT (T:Txt K mg Z):cE P w K mg base fA 1 Z.oZ Z.oT ["_law_grid"] (vz K):=by
 refine T.fQ.F.ok vE (λvs H Q E h=>?_) (λcdv A outer s H vs Q E hr h=>?_)
 ·obtain ⟨p,H0,rows,rfl,_⟩:=h;rfl
 ·obtain ⟨p,H0,rows,rfl,hp,hl,hm,k⟩:=h;refine ⟨_,(aw (a8 (b7 ["_law_row_here"] [] [] (cw (pv 0)) (λ_=>(aN (i:=0) (show ND9 ["_law_row_here"] by decide +kernel))) (λ_=>b8) (λ_=>(fz (kR K (by rfl)) (by rfl) T.list PyProof.Rows.boot_list (ae (pv 0) ag)))))),?_⟩;refine aQ (σ:=[some (.ref p)]) rfl ?_;obtain ⟨xs,gx,qx,_⟩:=id hp;exists ⟨⟨_,bL.of gx⟩,?_⟩;refine dd (K:=K) (F:=dA K H0) (dA K H) id gx qx hl (λa b=>a.same b) (λa b=>a.same b) ?_ ?_
  ·rintro i ns x H' NY NN en s ⟨u,rfl,_,zs,gz,qz⟩ k1;exists ⟨u,zs,rfl,.inl (bL.of gz),λl1 hl1=>?_⟩;exact k1 _ _ (aH.new hl1) ⟨l1,rfl,s.none hl1,zs,aJ,Paired.imp' (λ_ _ z=>z.same (aH.new hl1)) qz⟩
  ·rintro ys' H' r hr s g pr nx;rw[j3] at pr nx;exact k r H' hr s ⟨ys',g,pr,kW nx⟩
theorem zc:a9 ["_law_parts_here"] ["_law_parts_here"] (aI nk):=by walk_at "d"
theorem zw (T:Txt K mg Z):cE P w K mg base fA 7 Z.uE Z.uf ["_law_parts_here"] (vm K Z.a_System):=by
 refine T.me.F.ok zc (λvs H Q E h=>?_) (λcdv A outer s H vs Q E hr h=>?_)
 ·obtain ⟨r,H0,mv,pt,lk,rfl,_⟩:=h;rfl
 ·obtain ⟨r,H0,mv,pt,lk,rfl,PQ,D,F,k⟩:=h;refine ⟨_,(aw (a8 (IV T.mk_System (pL T) (hr.mono (by decide)) rfl T.mg_System T.kg .nil FO (ae (cv (jT T) hr T.fQ (ae (aS bC (pv 0) aj) ag)) (ae (cv (jT T) hr T.fQ (ae (aS bC (pv 0) aj) ag)) (ae (cv (jT T) hr T.fQ (ae (aS bC (pv 0) aj) ag)) ag)))))),?_⟩;refine aQ (σ:=[some (.ref r)]) rfl ?_;obtain ⟨m,p,l,g,n1,n2,n3,Gm,Gp,Gl⟩:=id PQ;have d1:=D.n8;have d2:=D.i4;have d3:=D.o4;exists ⟨m,H0,mv,rfl,Gm,by lia,λxs hx=>by rw[D.mw xs hx];lia,λa H1 na s1 Ga=>?_⟩;have g1:=s1 _ _ g;exists ⟨p,H0,pt,rfl,Gp.same s1,by lia,λxs hx=>by rw[D.pw xs hx];lia,λb H2 nb s2 Gb=>?_⟩;have s12:=s1.trans s2;have g2:=s12 _ _ g;exists ⟨l,H0,lk,rfl,Gl.same s12,by lia,λxs hx=>by rw[D.lw xs hx];lia,λc H3 nc s3 Gc=>?_⟩;have s13:=s12.trans s3;walk_at "w";intro x dx nx ndx nex;exact ⟨x,dx,a,b,c,H3,H,H1,H2,mv,pt,lk,rfl,nx,ndx,nex,rfl,(Ga.same s2).same s3,Gb.same s3,Gc,D,F.ok.1,F.ok.2.1,F.ok.2.2,λH' s' S'=>⟨rfl,k x H' (s13.none nx) (s13.trans s') (S'.weak s13)⟩⟩
theorem gJ:a9 ["_law_bag_here","_law_many","_law_begin","_law_found","_law_wide","_law_k"] ["_law_bag_here","_law_many","_law_begin"] (aI jO):=by walk_at "d"
theorem uL (T:Txt K mg Z):cE P w K mg base fA 2 Z.oa Z.nW ["_law_bag_here","_law_many","_law_begin"] (CZ K):=by
 refine T.ju.F.ok gJ (λvs H Q E h=>?_) (λcdv A outer s H vs Q E hr h=>?_)
 ·obtain ⟨b,m,rfl,_⟩:=h;rfl
 ·obtain ⟨b,m,rfl,hB,hm,k⟩:=h
  refine ⟨_,(ao (aU (i:=3) gJ.nd rfl (Or.inl rfl) (dB ag))
   (ao (aU (i:=4) gJ.nd rfl (Or.inl rfl) (aS bw (dB (ae aj (ae aj (ae aj (ae aj ag))))) (cv (aX T) hr T.aO (ae (pv 0) (ae aj ag)))))
   (ao (dU PassesOwn.never rfl (cg rfl T.range (ae (pv 1) ag)) (aN (i:=5) gJ.nd)
    (aw (c5 (bu eH (cv (aX T) hr T.aO (ae (pv 0) (ae aj ag))) aj (bG _)) (aw (ir (tI cS dh dg iY (pv 3) (ae (cL (ae aj (ae aj ag))) ag)))) (aw (ir (tI cS dh dg iY (pv 3) (ae (cv (gZ T) hr T.eY (ae (bp dG (pv 2) (cv (aX T) hr T.aO (ae (pv 0) (ae (pv 4) ag)))) (ae (bp dG aj (cv (aX T) hr T.aO (ae (pv 0) (ae (bp fO (pv 4) aj) ag)))) ag))) ag)))))))
   (aw (a8 (pv 3)))))),?_⟩
  refine aQ (σ:=[some (.ref b),some (.int m),some (.int 1),none,none,none]) rfl ?_;exists c9 λf H1 s1 n1 g1=>?_
  exists c9 λl0 H2 s2 n2 g2=>?_
  have B2:=(hB.same s1).same s2;exists ⟨b,4,rfl,B2,by decide,by decide,λv H3 v0 v1 B3 u3=>?_⟩;have fb:f≠b:=λz=>hB.at (by rw[<- z];exact n1)
  have g3:=u3.other (λz=>(hB.same s1).at (by rw[<- z];exact n2)) g2;have gf:=u3.other fb (s2 _ _ g1);obtain ⟨x,ex,mx,_⟩:=iK (xs:=[V.int 9,V.int 9,V.int 9,V.int 1000]) v0 (by simpa using v1)
  obtain ⟨w,rfl,hw⟩:∃w:Nat,x=.int w/\(w=9\/w=1000):=by
   simp only[aA,aP,or_false] at mx;rcases mx with rfl | rfl | rfl | rfl
   ·exact ⟨9,rfl,.inl rfl⟩
   ·exact ⟨9,rfl,.inl rfl⟩
   ·exact ⟨9,rfl,.inl rfl⟩
   ·exact ⟨1000,rfl,.inr rfl⟩
  obtain ⟨q0,I0,xs0,gq0⟩:=hB.inner;have fq:f≠q0:=λz=>by rw[<- z,n1] at gq0;cases gq0
  have u03:cG b H H3:=((s1.trans s2).upto (p:=b)).trans u3;have I3:Inner H3 b q0:=u03.2 _ I0;exists cA (bL.of g3) ex ?_;exists ⟨by lia,by lia,?_⟩;refine dW (n:=m) (λi σ' H'=>∃(y:Option V) (us:List V) (ws:List Rat),σ'=[some (.ref b),some (.int m),some (.int 1),some (.ref f),some (.int w),y]/\H' f=some (.lst us)/\Paired (bQ K H') ws us/\ws.length=i/\(∀z∈ws,0 < z/\Dr 1000 z)/\fI H' b/\Inner H' b q0/\cG b H H') ⟨none,[],[],rfl,gf,.nil,rfl,(λ_ z=>nomatch z),B3,I3,u03⟩ ?_ ?_
  ·rintro i σ' H' hi ⟨y,us,ws,rfl,gu,pr,lw,hd,B',I',u'⟩;have lu:=pr.length
   have fin:∀(t:V) (z:Rat) (H5:Hp),fI H5 b->cG b H' H5->bQ K H5 z t->0 < z/\Dr 1000 z->H5 f=some (.lst us)/\us.length < sizeLine/\∃(y:Option V) (us':List V) (ws':List Rat),[some (V.ref b),some (.int m),some (.int 1),some (.ref f),some (.int w),some (.int i)]=[some (.ref b),some (.int m),some (.int 1),some (.ref f),some (.int w),y]/\(upd H5 f (.lst (us++[t]))) f=some (.lst us')/\Paired (bQ K (upd H5 f (.lst (us++[t])))) ws' us'/\ws'.length=i+1/\(∀z∈ws',0 < z/\Dr 1000 z)/\fI (upd H5 f (.lst (us++[t]))) b/\Inner (upd H5 f (.lst (us++[t]))) b q0/\cG b H (upd H5 f (.lst (us++[t]))):=λt z H5 B5 u5 nz dz=>by
    have g5:=u5.other fb gu;have I5:=u5.2 _ I';refine ⟨g5,bK (by lia),_,_,ws++[z],rfl,aJ,b9 (Paired.imp' (λ_ _ y=>(y.upto u5 B').updL g5) pr) (.cons (nz.updL g5) .nil),by simp [lw],uY hd dz,B5.upd I5 fb fq,I5.upd fb,(u'.trans u5).after n1⟩
   exists ⟨b,2,rfl,B',by decide,by decide,λc Ha c0 c1 Ba ua=>?_⟩;exists gC (λh0=>?_) (λh0=>?_)
   ·exists ⟨.inl ⟨rfl,_,bL.of (ua.other fb gu)⟩,?_⟩;exists bW λt Hb sb gt=>?_
    obtain ⟨e1,e2,e3⟩:=fin (.ref t) 1 Hb (Ba.same sb) (ua.same sb) (bQ.mk gt rfl) ⟨by decide,by decide,by decide⟩;exists iT e1 e2 ?_;exact e3
   ·exists ⟨.inl ⟨rfl,_,bL.of (ua.other fb gu)⟩,?_⟩;exists ⟨b,_,rfl,Ba,by lia,by lia,λt Hb t0 t1 Bb ub=>?_⟩;exists eC (show ko _ _ from ⟨by decide,by show (2:Nat) < 2^8999;exact bc (show 2 < 2^2 by decide) (au (by decide) (by decide))⟩) ?_;rw[bP _ (by decide)];exists ⟨b,_,rfl,Bb,by lia,by lia,λd Hc d0 d1 Bc uc=>?_⟩;exists ⟨_,_,rfl,by lia,(BH (by lia)).mono (by decide),λr Hd sd gd=>?_⟩;obtain ⟨z,ez,dz,ze⟩:=Cm (t:=1+t) (b:=1+d) (W:=1000) (by lia) (by lia) (by lia);obtain ⟨e1,e2,e3⟩:=fin (.ref r) z Hd (Bc.same sd) (((ua.trans ub).trans uc).same sd) (bQ.mk gd ez) ⟨KR ze (by lia) (by lia),dz⟩;exists iT e1 e2 ?_;exact e3
  ·rintro σ' H' ⟨y,us,ws,rfl,gu,pr,lw,hd,B',I',u'⟩;exists k f ws H' n1 ⟨us,gu,pr⟩ lw hd B' u'
theorem jc:a9 ["_law_bag_here","_law_parts_here","_law_bottoms","_law_row_here"] ["_law_bag_here","_law_parts_here"] (aI lP):=by walk_at "d"
theorem xA (T:Txt K mg Z):cE P w K mg base fA 2 Z.qW Z.qI ["_law_bag_here","_law_parts_here"] (xQ K):=by
 refine T.kM.F.ok jc (λvs H Q E h=>?_) (λcdv A outer s H vs Q E hr h=>?_)
 ·obtain ⟨b,r,H0,mv,pt,lk,rfl,_⟩:=h;rfl
 ·obtain ⟨b,r,H0,mv,pt,lk,rfl,hB,nb,PQ,D,sz,k⟩:=h
  refine ⟨_,(ao (aU (i:=2) jc.nd rfl (Or.inl rfl) (dB (ae aj ag)))
   (ao (dU PassesOwn.never rfl (cw (bp jR (aS bC (pv 1) aj) (aS bC (pv 1) aj))) (aN (i:=3) jc.nd)
    (aw (aU (i:=2) jc.nd rfl (Or.inl rfl) (bp jR (pv 2) (b7 ["_law_one"] [] [] (cw (pv 3)) (λ_=>(aN (i:=0) (show ND9 ["_law_one"] by decide +kernel))) (λ_=>b8) (λ_=>(bp dG (aS (oB K (by rfl)) (pv 0) aj) (bp cK (bp fO (bO qQ (by rfl) T.abs PyProof.Rows.boot_abs (ae (aS (oB K (by rfl)) (pv 0) aj) ag)) aj) aj))))))))
   (ao (c5 (bu tN (bO (EY rfl) (by rfl) T.max PyProof.Rows.boot_max (ae (pv 2) ag)) aj (bG _)) (aw (a8 (cv (aX T) hr T.aO (ae (pv 0) (ae aj ag))))) bT)
   (ao (c5 (bu tN (bO bD (by rfl) T.len bB (ae (aS bC (pv 1) aj) ag)) aj (bG _)) (aw (a8 (aS bw (dB (ae (cv (aX T) hr T.aO (ae (pv 0) (ae aj ag))) (ae (bO bD (by rfl) T.len bB (ae (aS bC (pv 1) aj) ag)) ag))) (cv (aX T) hr T.aO (ae (pv 0) (ae aj ag)))))) bT)
   (ao (c5 (PW.pt (iU (bu oK (bO bD (by rfl) T.len bB (ae (aS bC (pv 1) aj) ag)) aj (bG _)) (jB (bu eH (cv (aX T) hr T.aO (ae (pv 0) (ae aj ag))) aj (bG _))))) (aw (a8 (cv (aX T) hr T.aO (ae (pv 0) (ae aj ag))))) bT)
   (aw (a8 (cv (aX T) hr T.aO (ae (pv 0) (ae (bp dG aj (bO bD (by rfl) T.len bB (ae (aS bC (pv 1) aj) ag))) ag)))))))))),?_⟩
  refine aQ (σ:=[some (.ref b),some (.ref r),none,none]) rfl ?_;have d8:=D.n8;have i4:=D.i4;obtain ⟨m,p,l,g,n1,n2,n3,Gm,Gp,Gl⟩:=id PQ;obtain ⟨um,gm,qm,_⟩:=id Gm;obtain ⟨up,gp,qp,_⟩:=id Gp;have lum:=qm.length;have lup:=qp.length;exists c9 λbl0 H1 s1 nbl g1=>?_
  have g':=s1 _ _ g;exists lV (s1 _ _ gm) (s1 _ _ gp) (bf (bK (by lia))) λcc H2 s2 nc gc=>?_
  have s02:=s1.trans s2;have qc:Paired (dA K H0 H2) (mv++pt) (um++up):=Paired.imp' (λ_ _ z=>dA.same z s02) (b9 qm qp)
  have wc:∀xs∈mv++pt,xs.length=mv.length:=λxs hx=>by
   rcases az.mp hx with hx | hx
   ·exact D.mw xs hx
   ·exact D.pw xs hx
  have lc:(mv++pt).length=(um++up).length:=qc.length;rw[ax,ax] at lc;exists ⟨⟨_,bL.of gc⟩,?_⟩;refine iH (K:=K) (a:=cc) (xs:=um++up) (λi σ' H'=>aH H2 H'/\∃bl ns y,σ'=[some (.ref b),some (.ref r),some (.ref bl),y]/\H' bl=some (.lst (ns.map V.int))/\1<=ns.length/\ns.length<=1+i*8/\∀j xs,j < i->(mv++pt)[j]?=some xs->∀x∈xs,Ly x∈ns) ⟨aH.refl _,bl0,[1],_,rfl,s2 _ _ g1,by decide,by decide,λj xs h=>absurd h (Ht _)⟩ (λi σ' H' _ ⟨e,_⟩=>bL.of (e _ _ gc)) ?_ ?_
  ·rintro i v σ' H' hv ⟨e,bl,ns,y,rfl,gb,b1,b2,hn⟩;obtain ⟨xs,exs,u,rfl,_,zs,gz,qz⟩:=ck qc hv;have mx:=ar exs;have wx:=wc xs mx;have hi:i < (um++up).length:=(aV.mp hv).1;rw[ax] at hi;exists ⟨⟨_,bL.of (e _ _ gz)⟩,?_⟩;refine dd (K:=K) (F:=bQ K) (λ_ c x=>x=V.int (Ly c)) id (e _ _ gz) (Paired.imp' (λ_ _ z=>z.same e) qz) (by lia) (λa b=>a.same b) (λa _=>a) ?_ ?_
   ·rintro j c x Ha NY NN ec sa ⟨pp,rfl,hp⟩ k1;have mc:=ar ec;have szc:=sz xs mx c mc;walk_at "w"
    have e1:(if (nm c).1 < 0 then -(nm c).1 else (nm c).1)=(c.num.natAbs:Int):=by
     show (if c.num < 0 then -c.num else c.num)=_
     split <;> lia
    have e2:(c.num.natAbs:Int).fdiv 1000=(c.num.natAbs:Int) / 1000:=bP _ (by decide);rw[e1];refine eC (show ko _ _ from ⟨by decide,bc (show (1000:Int).natAbs < 2^20 by decide) (au (by decide) (by decide))⟩) ?_;rw[e2];exists k1 _ _ (aH.refl _) rfl
   rintro ys Hb cl hcl sb gcl prl _
   have ey:ys=(xs.map Ly).map V.int:=by
    rw[j3] at prl;rw[vd];exact yc prl
   have ly:=prl.length;rw[ak] at ly;have gbb:=sb _ _ gb;rw[ey] at gcl;exists lV gbb gcl (bf (bK (by rw[ak,ak,ak];lia))) λc2 Hc sc nc2 gc2=>?_
   rw[<- cX] at gc2;refine ⟨(e.trans sb).trans sc,c2,ns++xs.map Ly,_,rfl,gc2,by rw[ax];lia,by rw[ax,ak];lia,λj ys' hj ej x hx=>?_⟩;rcases gN j i with z | z
   ·exact d5 _ (hn j ys' z ej x hx)
   ·have:j=i:=by lia
    subst this;rw[exs] at ej;cases ej;exact bE _ (ay.mpr ⟨x,hx,rfl⟩)
  ·rintro σ' H' ⟨e,bl,ns,y,rfl,gb,b1,b2,hn⟩;have e0:=s02.trans e;have B':=hB.same e0;have PQ':=PQ.same e0;obtain ⟨m',p',l',g2,_,_,_,Gm',_,_⟩:=id PQ'
   have em:m'=m:=by
    have:=e0 _ _ g;rw[this] at g2;cases g2;rfl
   subst em;obtain ⟨um',gm',qm',_⟩:=id Gm';have lum':=qm'.length;have u0:cG b H H':=e0.upto;exists ⟨bl,ns,rfl,bL.of gb,by lia,λM hM hmax=>?_⟩;exists gC (λh=>?_) (λh=>?_)
   ·exists ⟨b,4,rfl,B',by decide,by decide,λv H3 v0 v1 B3 u3=>?_⟩;obtain ⟨v,rfl⟩:=cy v0;exact k v H3 ⟨by lia,.inl (by lia)⟩ B3 (u0.trans u3)
   ·have M9:M<=9:=by rw[decide_eq_true_eq] at h;lia
    have sm:∀xs∈mv++pt,∀x∈xs,x.den<=9/\x.num.natAbs < 1000:=λxs hx x hx'=>by
     obtain ⟨j,hj,rfl⟩:=bM hx;have:=hn j _ (by rw[ax,<- lum,<- lup];rw[ax] at hj;exact hj) (af hj) x hx';exact Jt (Int.le_trans (hmax _ this) M9)
    exists ⟨_,_,rfl,.inl (bL.of gm'),?_⟩;rw[<- lum'];exists gC (λh1=>?_) (λh1=>?_)
    ·have n5:5 < mv.length:=by have:=of_decide_eq_true h1;lia
     exists ⟨b,4,rfl,B',by decide,by decide,λv H3 v0 v1 B3 u3=>?_⟩;obtain ⟨v,rfl⟩:=cy v0;obtain ⟨m3,p3,l3,g3,_,_,_,Gm3,_,_⟩:=PQ'.upto u3 B' nb;obtain ⟨um3,gm3,qm3,_⟩:=id Gm3;have lum3:=qm3.length;exists ⟨_,_,rfl,.inl (bL.of gm3),?_⟩;rw[<- lum3];exists c9 λl4 H4 s4 n4 g4=>?_
     exists ⟨b,2,rfl,B3.same s4,by decide,by decide,λv2 H5 v20 v21 B5 u5=>?_⟩;have g5:=u5.other (λz=>B3.at (by rw[<- z];exact n4)) g4;obtain ⟨x,ex,mx,_⟩:=iK (xs:=[V.int (v:Int),V.int (mv.length:Int)]) v20 (by simpa using v21);exists cA (bL.of g5) ex ?_;have u05:=(u0.trans (u3.same s4)).trans u5;simp only[aA,aP,or_false] at mx;rcases mx with rfl | rfl
     ·exact k v H5 ⟨by lia,.inl (by lia)⟩ B5 u05
     ·exact k mv.length H5 ⟨by lia,.inr ⟨sm,λ_=>av _,λ_ _=>yK _⟩⟩ B5 u05
    ·have n5:mv.length<=5:=by rw[decide_eq_true_eq] at h1;lia
     exists ⟨_,_,rfl,.inl (bL.of gm'),?_⟩;rw[<- lum'];have last:∀(Hx:Hp),fI Hx b->cG b H Hx->∀(v:Nat),v < 2+mv.length->Q (.int v) Hx:=λHx Bx ux v hv=>k v Hx ⟨by lia,.inr ⟨sm,λz=>by lia,λ_ _=>by lia⟩⟩ Bx ux
     exists gC (λh2=>?_) (λh2=>?_)
     ·have n3':mv.length < 3:=by have:=of_decide_eq_true h2;lia
      exists ⟨b,8,rfl,B',by decide,by decide,λv H3 v0 v1 B3 u3=>?_⟩;exists gC (λh3=>?_) (λh3=>?_)
      ·exists ⟨b,13,rfl,B3,by decide,by decide,λv4 H4 v40 v41 B4 u4=>?_⟩;obtain ⟨v4,rfl⟩:=cy v40;exact k v4 H4 ⟨by lia,.inr ⟨sm,λz=>by lia,λz _=>by lia⟩⟩ B4 ((u0.trans u3).trans u4)
      ·obtain ⟨m3,p3,l3,g3,_,_,_,Gm3,_,_⟩:=PQ'.upto u3 B' nb;obtain ⟨um3,gm3,qm3,_⟩:=id Gm3;have lum3:=qm3.length;exists ⟨_,_,rfl,.inl (bL.of gm3),?_⟩;rw[<- lum3];walk_at "w";rw[show ((2:Int)+(mv.length:Int))=((2+mv.length:Nat):Int) by lia];refine ⟨b,2+mv.length,rfl,B3,by lia,by lia,λv4 H4 v40 v41 B4 u4=>?_⟩;obtain ⟨v4,rfl⟩:=cy v40;exact last H4 B4 ((u0.trans u3).trans u4) v4 (by lia)
     ·exists ⟨_,_,rfl,.inl (bL.of gm'),?_⟩;rw[<- lum'];walk_at "w";rw[show ((2:Int)+(mv.length:Int))=((2+mv.length:Nat):Int) by lia];refine ⟨b,2+mv.length,rfl,B',by lia,by lia,λv4 H4 v40 v41 B4 u4=>?_⟩;obtain ⟨v4,rfl⟩:=cy v40;exact last H4 B4 (u0.trans u4) v4 (by lia)
theorem eX:a9 ["_law_one","_law_other","_law_total","_law_k"] ["_law_one","_law_other"] (aI pC):=by walk_at "d"
theorem AI (T:Txt K mg Z):cE P w K mg base fA 3 Z.pU Z.pR ["_law_one","_law_other"] (yU K):=by
 refine T.jn.F.ok eX (λvs H Q E h=>?_) (λcdv A outer s H vs Q E hr h=>?_)
 ·obtain ⟨p,q,xs,ys,rfl,_⟩:=h;rfl
 ·obtain ⟨p,q,xs,ys,rfl,hp,hq,hl,hz,⟨k1,j1,k2,j2,h1,h2,hkj⟩,kk⟩:=h
  refine ⟨_,(ao (aU (i:=2) eX.nd rfl (Or.inl rfl) (cL (ae aj (ae aj ag))))
   (ao (dU PassesOwn.never rfl (cg rfl T.range (ae (bO bD (by rfl) T.len bB (ae (pv 0) ag)) ag)) (aN (i:=3) eX.nd)
    (aw (aU (i:=2) eX.nd rfl (Or.inl rfl) (cv (dC T) hr T.c6 (ae (pv 2) (ae (cv (d7 T) hr T.dy (ae (aS bw (pv 0) (pv 3)) (ae (aS bw (pv 1) (pv 3)) ag))) ag))))))
   (aw (a8 (pv 2))))),?_⟩
  refine aQ (σ:=[some (.ref p),some (.ref q),none,none]) rfl ?_;obtain ⟨us,gu,qu⟩:=id hp;obtain ⟨ws,gw,qw⟩:=id hq;have lu:=qu.length;have lw:=qw.length;exists bW λr0 H0 s0 g0=>?_
  exists ⟨_,_,rfl,.inl (bL.of (s0 _ _ gu)),?_⟩;exists ⟨by lia,by lia,?_⟩;refine dW (n:=us.length) (λi σ' H'=>aH H H'/\∃(r:V) (v:Option V),σ'=[some (.ref p),some (.ref q),some r,v]/\bQ K H' (bI (xs.take i) (ys.take i)) r) ⟨s0,_,none,rfl,bQ.mk g0 rfl⟩ ?_ ?_
  ·rintro i σ' H' hi ⟨s,r,v,rfl,hr⟩;have ix:i < xs.length:=by lia
   have iy:i < ys.length:=by lia
   obtain ⟨vx,ex,nx⟩:=Dz (Paired.imp' (λ_ _ z=>z.same s) qu) ix;obtain ⟨vy,ey,ny⟩:=Dz (Paired.imp' (λ_ _ z=>z.same s) qw) iy;exists cA (bL.of (s _ _ gu)) ex ?_;exists cA (bL.of (s _ _ gw)) ey ?_;exists ⟨_,_,_,_,rfl,nx,ny,h1.szn (getD_mem ix) (by lia),h2.szn (getD_mem iy) (by lia),λr3 H3 s3 n3=>?_⟩;exists ⟨_,_,_,_,rfl,hr.same s3,n3,Gz h1 h2 hz i hkj,FX (h1.one (getD_mem ix)) (h2.one (getD_mem iy)) hkj,λr4 H4 s4 n4=>?_⟩;exists ⟨(s.trans s3).trans s4,_,_,rfl,by rw[sX ix iy];exact n4⟩
  ·rintro σ' H' ⟨s,r,v,rfl,hr⟩;rw[aD (by lia),aD (by lia)] at hr;obtain ⟨t,rfl,ht⟩:=hr;exists kk _ H' s ⟨t,rfl,ht⟩
theorem BN:a9 ["_law_grid","_law_row_here"] ["_law_grid","_law_row_here"] (aI rO):=by walk_at "d"
theorem Ce (T:Txt K mg Z):cE P w K mg base fA 4 Z.yF Z.yr ["_law_grid","_law_row_here"] (yT K):=by
 refine T.pQ.F.ok BN (λvs H Q E h=>?_) (λcdv A outer s H vs Q E hr h=>?_)
 ·obtain ⟨p,q,H0,rows,ys,rfl,_⟩:=h;rfl
 ·obtain ⟨p,q,H0,rows,ys,rfl,hp,hq,hz,hl,hr1,kk⟩:=h;refine ⟨_,(aw (a8 (b7 ["_law_one"] ["_law_row_here"] [1] (cw (pv 0)) (λ_=>(aN (i:=0) (show ND9 ["_law_one","_law_row_here"] by decide +kernel))) (λ_=>b8) (λ_=>(cv (AI T) hr T.jn (ae (pv 0) (ae (pv 1) ag))))))),?_⟩;refine aQ (σ:=[some (.ref p),some (.ref q)]) rfl ?_;obtain ⟨xs,gx,qx,_⟩:=id hp;exists ⟨⟨_,bL.of gx⟩,?_⟩;refine dd (K:=K) (F:=dA K H0) (bQ K) (λxs=>bI xs ys) gx qx hz (λa b=>a.same b) (λa b=>a.same b) ?_ ?_
  ·rintro i ns x H' NY NN en s ⟨u,rfl,_,hu⟩ k;obtain ⟨e1,e2⟩:=hr1 ns (ar en);exists ⟨u,q,ns,ys,rfl,hu,hq.same s,e1.symm,by lia,e2,λr H2 s2 h2'=>k _ _ s2 h2'⟩
  ·rintro ys' H' r hr s g pr nx;exact kk r H' hr s ⟨ys',g,pr⟩
theorem fk:a9 ["_law_parts_here","_law_state","_law_puts_here","_law_move_here","_law_put","_law_look","_law_found","_law_k"] ["_law_parts_here","_law_state","_law_puts_here"] (aI nh):=by walk_at "d"
theorem zu (T:Txt K mg Z):cE P w K mg base fA 5 Z.uC Z.t9 ["_law_parts_here","_law_state","_law_puts_here"] (Al K):=by
 refine T.ma.F.ok fk (λvs H Q E h=>?_) (λcdv A outer s H vs Q E hr h=>?_)
 ·obtain ⟨r,s0,u0,H0,mv,pt,lk,st,pu,rfl,_⟩:=h;rfl
 ·obtain ⟨r,s0,u0,H0,mv,pt,lk,st,pu,rfl,PQ,D,hs,hu,l1,l2,NX,k⟩:=h
  refine ⟨_,(ao (eQ (pv 0) (rY rfl (cB (aN (i:=3) fk.nd) (cB (aN (i:=4) fk.nd) (cB (aN (i:=5) fk.nd) gK)))))
   (ao (aU (i:=6) fk.nd rfl (Or.inl rfl) (cv (Ce T) hr T.pQ (ae (pv 3) (ae (pv 1) ag))))
   (ao (dU PassesOwn.never rfl (cg rfl T.range (ae (bO bD (by rfl) T.len bB (ae (pv 4) ag)) ag)) (aN (i:=7) fk.nd)
    (aw (aU (i:=6) fk.nd rfl (Or.inl rfl) (cv (jD T) hr T.fU (ae (pv 6) (ae (cv (pK T) hr T.jW (ae (aS bw (pv 2) (pv 7)) (ae (aS bw (pv 4) (pv 7)) ag))) ag))))))
   (aw (a8 (pv 6)))))),?_⟩
  refine aQ (σ:=[some (.ref r),some (.ref s0),some (.ref u0),none,none,none,none,none]) rfl ?_;obtain ⟨m,p,l,g,n1,n2,n3,Gm,Gp,Gl⟩:=id PQ;have d1:=D.n8;have d2:=D.i4;exists ⟨m,s0,H0,mv,st,rfl,Gm,hs,by lia,by lia,λxs hx=>⟨by rw[D.mw xs hx,l1],NX.f2 xs hx⟩,λf H1 nf s1 R1=>?_⟩;obtain ⟨ps,gp,qp,_⟩:=Gp.same s1;have lp:=qp.length;exists ⟨_,_,rfl,.inl (bL.of gp),?_⟩;exists ⟨by lia,by lia,?_⟩;refine dW (n:=ps.length) (λkk σ' H'=>∃(f:Addr) (x:Option V),σ'=[some (.ref r),some (.ref s0),some (.ref u0),some (.ref m),some (.ref p),some (.ref l),some (.ref f),x]/\H f=none/\aH H1 H'/\cx K H' f (nextK mv pt st pu kk)) ⟨f,none,rfl,nf,aH.refl _,by rw[Cf];exact R1⟩ ?_ ?_
  ·rintro kk σ' H' hk ⟨f',x,rfl,nf',s',R'⟩;have kp:kk < pt.length:=by lia
   have ku:kk < pu.length:=by lia
   obtain ⟨zs,gz,qz⟩:=(hu.same s1).same s';have lz:=qz.length;obtain ⟨vu,eu,nu⟩:=Dz qz ku;obtain ⟨row,vr,er,ev,mr,q,rfl,_,Rq⟩:=iX qp kp
   have er':pt[kk]=row:=by
    rw[af kp] at er;exact bY er
   have eu':pu.getD kk 0=pu[kk]:=by rw[aa,af ku];rfl
   have mu:pu.getD kk 0∈pu:=getD_mem ku;exists cA (bL.of gz) eu ?_;exists cA (bL.of (s' _ _ gp)) (fF ev) ?_;exists ⟨vu,q,_,row,rfl,nu,NX.su _ mu,Rq.same s',by rw[D.pw row mr];lia,NX.sp row mr,λr1 H2 n1' s2 R2=>?_⟩;exists ⟨f',r1,_,_,rfl,R'.same s2,R2,by rw[ak,hJ,D.pw row mr],by rw[hJ];lia,NX.part kk,λy hy=>?_,λr2 H3 n2' s3 R3=>?_⟩
   ·obtain ⟨y',hy',rfl⟩:=ay.mp hy;exact NX.mul _ mu row mr y' hy'
   ·exists ⟨s1.none (s'.none (s2.none n2')),(s'.trans s2).trans s3,?_⟩;have e:=Cg (st:=st) (pu:=pu) (λxs hx=>by rw[D.mw xs hx,l1]) kp ku (by rw[er'];exact D.pw row mr);rw[er',<- eu'] at e;rw[<- e];exact R3
  ·rintro σ' H' ⟨f',x,rfl,nf',s',R'⟩;rw[ox (by lia) (by lia)] at R';exists k f' H' nf' (s1.trans s') R'
theorem j8:a9 ["_law_parts_here","_law_start","_law_rows","_law_state","_law_puts_here"] ["_law_parts_here","_law_start","_law_rows"] (aI pB):=by walk_at "d"
theorem tP (T:Txt K mg Z):cE P w K mg base fA 6 Z.xf Z.wU ["_law_parts_here","_law_start","_law_rows"] (C5 K):=by
 refine T.kd.F.ok j8 (λvs H Q E h=>?_) (λcdv A outer s H vs Q E hr h=>?_)
 ·obtain ⟨r,s,p,H0,H1,mv,pt,lk,pus,st,rfl,_⟩:=h;rfl
 ·obtain ⟨r,s,p,H0,H1,mv,pt,lk,pus,st,rfl,PQ,D,Rs,ls,Gp,lp,wp,EF,k⟩:=h
  refine ⟨_,(ao (aU (i:=3) j8.nd rfl (Or.inl rfl) (fz (kR K (by rfl)) (by rfl) T.list PyProof.Rows.boot_list (ae (pv 1) ag)))
   (ao (dU PassesOwn.never rfl (cw (pv 2)) (aN (i:=4) j8.nd)
    (aw (aU (i:=3) j8.nd rfl (Or.inl rfl) (cv (zu T) hr T.ma (ae (pv 0) (ae (pv 3) (ae (pv 4) ag)))))))
   (aw (a8 (pv 3))))),?_⟩
  refine aQ (σ:=[some (.ref r),some (.ref s),some (.ref p),none,none]) rfl ?_;have d1:=D.n8;obtain ⟨ss,gs,qs⟩:=id Rs;obtain ⟨ps,gp,qp,_⟩:=id Gp;have lps:=qp.length;exists ⟨s,ss,rfl,.inl (bL.of gs),λc hc=>?_⟩;have sc:aH H (upd H c (.lst ss)):=aH.new hc;have Rc:cx K (upd H c (.lst ss)) c st:=⟨ss,aJ,Paired.imp' (λ_ _ z=>z.same sc) qs⟩;generalize upd H c (.lst ss)=Hc at sc Rc ⊢;exists ⟨⟨_,bL.of (sc _ _ gp)⟩,?_⟩;refine iH (K:=K) (a:=p) (xs:=ps) (λi σ' H'=>aH H H'/\∃q y,σ'=[some (.ref r),some (.ref s),some (.ref p),some (.ref q),y]/\H q=none/\cx K H' q (oG mv pt st pus i)) ⟨sc,c,_,rfl,hc,Rc⟩ (λi σ' H' _ ⟨e,_⟩=>bL.of (e _ _ gp)) ?_ ?_
  ·rintro i v σ' H' hv ⟨e,q,y,rfl,nq,Rq⟩;obtain ⟨pu,epu,u,rfl,_,Ru⟩:=ck qp hv;have hi:i < pus.length:=(aV.mp epu).1;have mp:=ar epu;exists ⟨r,q,u,H0,mv,pt,lk,_,pu,rfl,PQ.same e,D,Rq,cx.same Ru e,j6 ls (by lia),wp pu mp,EF.nx D ls wp (by lia) epu,λq2 H2 n2 s2 R2=>?_⟩;rw[<- mU epu] at R2;exact ⟨e.trans s2,q2,_,rfl,e.none n2,R2⟩
  ·rintro σ' H' ⟨e,q,y,rfl,nq,Rq⟩;rw[<- lps] at Rq;exists k q H' nq e Rq
theorem y9:a9 ["_law_bag_here","_law_parts_here","_law_steps_here","_law_wide"] ["_law_bag_here","_law_parts_here","_law_steps_here","_law_wide"] (aI m8):=by walk_at "d"
theorem qo (T:Txt K mg Z):cE P w K mg base fA 4 Z.uw Z.tY ["_law_bag_here","_law_parts_here","_law_steps_here","_law_wide"] (Ah K):=by
 refine T.jF.F.ok y9 (λvs H Q E h=>?_) (λcdv A outer s H vs Q E hr h=>?_)
 ·obtain ⟨b,r,tt,w,H0,mv,pt,lk,rfl,_⟩:=h;rfl
 ·obtain ⟨b,r,tt,w,H0,mv,pt,lk,rfl,hT,w1,w2,hB,nb,PQ,D,k⟩:=h;refine ⟨_,(aw (a8 (b7 ["_law_turn"] ["_law_bag_here","_law_parts_here","_law_wide"] [0,1,3] (cg rfl T.range (ae (pv 2) ag)) (λ_=>(aN (i:=0) (show ND9 ["_law_turn","_law_bag_here","_law_parts_here","_law_wide"] by decide +kernel))) (λ_=>b8) (λ_=>(cv (nK T) hr T.hX (ae (pv 1) (ae (bO (xF K (by rfl)) (by rfl) T.len bB (ae (aS (oB K (by rfl)) (pv 2) aj) ag)) (ae (pv 3) ag)))))))),?_⟩;refine aQ (σ:=[some (.ref b),some (.ref r),some (.int tt),some (.int w)]) rfl ?_;have i4:=D.i4;exists ⟨by lia,by lia,?_⟩
  refine tj (n:=tt) (b:=b) (dA K H) (λxs=>xs.length=pt.length/\∀x∈xs,Dr (max w 6) x) hB (by lia) (λ{H' H'' c x} a u B=>by
   obtain ⟨q,e,nq,R⟩:=a;exact ⟨q,e,nq,R.upto u B (λz=>hB.at (by rw[<- z];exact nq))⟩) ?_ ?_
  ·rintro i Ha NY NN hi ua Ba k1;obtain ⟨m,p,l,g,n1,n2,n3,Gm,Gp,Gl⟩:=PQ.upto ua hB nb;obtain ⟨up,gp,qp,_⟩:=id Gp;have lup:=qp.length;exists ⟨_,_,rfl,.inl (bL.of gp),?_⟩;rw[<- lup];exists ⟨b,pt.length,w,rfl,Ba,by lia,w1,by lia,λq xs Hb nq R lx dx Bb ub=>?_⟩;exact k1 _ xs _ ub Bb ⟨lx,dx⟩ ⟨q,rfl,ua.none Ba nq,R⟩
  ·rintro ys cs Hz t ht uz Bz gz lc hc prz nx;exact k t cs Hz ht ⟨ys,gz,prz,kW nx⟩ lc hc Bz uz
theorem zd:a9 ["_law_one","_law_other"] ["_law_one","_law_other"] (aI nH):=by walk_at "d"
theorem qq (T:Txt K mg Z):cE P w K mg base fA 2 Z.uG Z.uh ["_law_one","_law_other"] (lH K (λx y=>x - y)):=by
 refine T.jG.F.ok zd (λvs H Q E h=>?_) (λcdv A outer s H vs Q E hr h=>?_)
 ·obtain ⟨p,q,a,b,c,d,rfl,hp,hq,hb,hd,sa,sb,sc,sd,k⟩:=uR h;rfl
 ·obtain ⟨p,q,a,b,c,d,rfl,hp,hq,hb,hd,sa,sb,sc,sd,k⟩:=uR h;refine ⟨_,(aw (a8 (cv (gZ T) hr T.eY (ae (bp jP (bp cK (aS bC (pv 0) aj) (aS bC (pv 1) aj)) (bp cK (aS bC (pv 1) aj) (aS bC (pv 0) aj))) (ae (bp cK (aS bC (pv 0) aj) (aS bC (pv 1) aj)) ag))))),?_⟩;refine aQ (σ:=[some (.ref p),some (.ref q)]) rfl ?_;have hbd:0 < b*d:=gI hb hd;have sbd:Sz 8999 (b*d):=(sb.mul sd).mono (by decide);exists eC (show fe _ _ from .inr ⟨_,_,sa,sd,by decide⟩) ?_;exists eC (show fe _ _ from .inr ⟨_,_,sc,sb,by decide⟩) ?_;exists eC (show fe _ _ from .inr ⟨_,_,sb,sd,by decide⟩) ?_;walk_at "w";exists ⟨_,_,rfl,hbd,sbd,k⟩
theorem xt:a9 ["_law_one","_law_other"] ["_law_one","_law_other"] (aI lT):=by walk_at "d"
theorem xD (T:Txt K mg Z):cE P w K mg base fA 3 Z.rf Z.qM ["_law_one","_law_other"] (rE K):=by
 refine T.kQ.F.ok xt (λvs H Q E h=>?_) (λcdv A outer s H vs Q E hr h=>?_)
 ·obtain ⟨p,q,xs,ys,rfl,_⟩:=h;rfl
 ·obtain ⟨p,q,xs,ys,rfl,hp,hq,hl,hz,h1,h2,kk⟩:=h;refine ⟨_,(aw (a8 (b7 ["_law_k"] ["_law_one","_law_other"] [0,1] (cg rfl T.range (ae (bO bD (by rfl) T.len bB (ae (pv 0) ag)) ag)) (λ_=>(aN (i:=0) (show ND9 ["_law_k","_law_one","_law_other"] by decide +kernel))) (λ_=>b8) (λ_=>(cv (qq T) hr T.jG (ae (aS (kZ K (by rfl)) (pv 1) (pv 0)) (ae (aS (kZ K (by rfl)) (pv 2) (pv 0)) ag))))))),?_⟩;refine aQ (σ:=[some (.ref p),some (.ref q)]) rfl ?_;obtain ⟨us,gu,qu⟩:=id hp;obtain ⟨ws,gw,qw⟩:=id hq;have lu:=qu.length;exists ⟨_,_,rfl,.inl (bL.of gu),?_⟩;exists ⟨by lia,by lia,?_⟩;refine fV (n:=us.length) (bQ K) (λi=>xs.getD i 0 - ys.getD i 0) (by lia) (λa b=>a.same b) ?_ ?_
  ·rintro i H' NY NN hi s k1;have ix:i < xs.length:=by lia
   have iy:i < ys.length:=by lia
   obtain ⟨vx,ex,nx⟩:=Dz (Paired.imp' (λ_ _ z=>z.same s) qu) ix;obtain ⟨vy,ey,ny⟩:=Dz (Paired.imp' (λ_ _ z=>z.same s) qw) iy;exists cA (bL.of (s _ _ gu)) ex ?_;exists cA (bL.of (s _ _ gw)) ey ?_;exists ⟨_,_,_,_,rfl,nx,ny,h1 _ (getD_mem ix),h2 _ (getD_mem iy),λr3 H3 s3 n3=>k1 _ _ s3 n3⟩
  ·rintro ys' H' l hl' s g pr nx;exact kk l H' hl' s ⟨ys',g,by rw[BD (by lia)];rw[<- lu] at pr;exact pr⟩
theorem fh:a9 ["wholes","multiple","whole"] ["wholes"] (aI iq):=by walk_at "d"
theorem pJ (T:Txt K mg Z):cE P w K mg base fA 2 Z.kh Z.ke ["wholes"] (Fp K):=by
 refine T.gV.F.ok fh (λvs H Q E h=>?_) (λcdv A outer s H vs Q E hr h=>?_)
 ·obtain ⟨p,bs,M,rfl,_⟩:=h;rfl
 ·obtain ⟨p,bs,M,rfl,hp,hM,sM,hb,q⟩:=h
  refine ⟨_,(ao (aU (i:=1) fh.nd rfl (Or.inl rfl) aj)
   (ao (dU PassesOwn.never rfl (cw (pv 0)) (aN (i:=2) fh.nd)
    (aw (aU (i:=1) fh.nd rfl (Or.inl rfl) (bp cK (pv 1) (bp fO (pv 2) (cv (iB T) hr T.d9 (ae (pv 1) (ae (pv 2) ag))))))))
   (aw (a8 (pv 1))))),?_⟩
  refine aQ (σ:=[some (.ref p),none,none]) rfl ?_;exists ⟨⟨_,hp⟩,?_⟩;refine iH (K:=K) (a:=p) (xs:=bs.map V.int) (λi σ' H'=>H'=H/\∃x,σ'=[some (.ref p),some (.int (sA (bs.take i) 1)),x]) ⟨rfl,none,rfl⟩ (λi σ' H' _ ⟨e,_⟩=>by subst e;exact hp) ?_ ?_
  ·rintro i x σ' H' hx ⟨rfl,y,rfl⟩;rw[aB] at hx
   obtain ⟨b,eb,rfl⟩:∃b,bs[i]?=some b/\x=.int b:=by
    cases e:bs[i]? with
    | none=>rw[e] at hx;cases hx
    | some b=>rw[e] at hx;cases hx;exact ⟨b,rfl,rfl⟩
   have b1:=hb b (ar eb);have sb:Sz 4400 b:=zI hM b1.2 sM;have ht:∀c∈bs.take i,0 < c/\c∣M:=λc hc=>hb c (bS hc)
   have msz:Sz 4400 (sA (bs.take i) 1):=zI hM (uU (by decide) (Int.one_dvd _) ht) sM;generalize hm:sA (bs.take i) 1=m at msz ⊢;have gp:0 < g m b:=wC (by lia);exists ⟨m,b,rfl,?_⟩;exists eC (show ko _ _ from ⟨by lia,(Nc b1.1 sb).mono (by decide)⟩) ?_;rw[bP _ (by lia)];exists eC (show fe _ _ from .inr ⟨_,_,msz,sb.hi (t:=m) (by lia),by decide⟩) ?_;exists ⟨rfl,_,by rw[take_snoc eb,yg,hm];rfl⟩
  ·rintro σ' H' ⟨rfl,y,rfl⟩;walk_at "w";rw[aD (by simp)];exact q
theorem rH:a9 ["row"] ["row"] (aI jr):=by walk_at "d"
theorem eS (T:Txt K mg Z):cE P w K mg base fA 3 Z.mI Z.mH ["row"] (Fq K):=by
 refine T.dm.F.ok rH (λvs H Q E h=>?_) (λcdv A outer s H vs Q E hr h=>?_)
 ·obtain ⟨p,ns,M,rfl,_⟩:=h;rfl
 ·obtain ⟨p,ns,M,rfl,hp,hl,hz,q⟩:=h;refine ⟨_,(aw (a8 (cv (pJ T) hr T.gV (ae (b7 ["value"] [] [] (cw (pv 0)) (λ_=>(aN (i:=0) (show ND9 ["value"] by decide +kernel))) (λ_=>b8) (λ_=>(aS (oB K (by rfl)) (pv 0) aj))) ag)))),?_⟩;refine aQ (σ:=[some (.ref p)]) rfl ?_;obtain ⟨xs,gx,qx⟩:=id hp;have lx:=qx.length;exists ⟨⟨_,bL.of gx⟩,?_⟩;refine fW (K:=K) (xs:=xs) (λi ys H'=>H'=H/\ys=((ns.take i).map (·.2)).map V.int) (bf (bK (by lia))) ⟨rfl,rfl⟩ (λi ys H' _ ⟨e,_⟩=>by subst e;exact bL.of gx) ?_ ?_
  ·rintro i x ys H' hx hlen ⟨rfl,rfl⟩;obtain ⟨n,en,r,rfl,hr1⟩:=ck qx hx;exists ⟨rfl,by rw[take_snoc en];simp⟩
  ·rintro ys H' hy ⟨rfl,rfl⟩ l hl';exists ⟨l,ns.map (·.2),M,rfl,bL.of (by rw[aJ,aD (by lia)]),hz.1,hz.2.1,λb hb=>?_,?_⟩
   ·obtain ⟨n,hn,rfl⟩:=ay.mp hb;exact ⟨(hz.2.2 n hn).1,(hz.2.2 n hn).2.1⟩
   ·exact q _ (aH.new hl')
theorem yX:a9 ["row","bottom"] ["row","bottom"] (aI mY):=by walk_at "d"
theorem iu (T:Txt K mg Z):cE P w K mg base fA 1 Z.uk Z.tS ["row","bottom"] (Ag K):=by
 refine T.ft.F.ok yX (λvs H Q E h=>?_) (λcdv A outer s H vs Q E hr h=>?_)
 ·obtain ⟨p,ns,M,B,rfl,_⟩:=h;rfl
 ·obtain ⟨p,ns,M,B,rfl,hp,hl,hz,hB,sB,q⟩:=h;refine ⟨_,(aw (a8 (b7 ["value"] ["bottom"] [1] (cw (pv 0)) (λ_=>(aN (i:=0) (show ND9 ["value","bottom"] by decide +kernel))) (λ_=>b8) (λ_=>(bp cK (aS (oB K (by rfl)) (pv 0) aj) (bp fO (pv 1) (aS (oB K (by rfl)) (pv 0) aj))))))),?_⟩;refine aQ (σ:=[some (.ref p),some (.int B)]) rfl ?_;obtain ⟨xs,gx,qx⟩:=id hp;have lx:=qx.length;exists ⟨⟨_,bL.of gx⟩,?_⟩;refine fW (K:=K) (xs:=xs) (λi ys H'=>H'=H/\ys=(c7 (ns.take i) B).map V.int) (bf (bK (by lia))) ⟨rfl,rfl⟩ (λi ys H' _ ⟨e,_⟩=>by subst e;exact bL.of gx) ?_ ?_
  ·rintro i x ys H' hx hlen ⟨rfl,rfl⟩;obtain ⟨n,en,r,rfl,hr1⟩:=ck qx hx;have nz:=hz.2.2 n (ar en);have sn:Sz 4400 n.2:=zI hz.1 nz.2.1 hz.2.1;exists eC (show ko _ _ from ⟨by lia,sn.mono (by decide)⟩) ?_;rw[bP _ (by lia)]
   have sq:Sz 4400 (B / n.2):=sB.le (by
    rw[Lx (by lia)];exact Nat.div_le_self ..)
   exists eC (show fe _ _ from .inr ⟨_,_,nz.2.2,sq,by decide⟩) ?_;exact ⟨rfl,by rw[take_snoc en];simp [c7]⟩
  ·rintro ys H' hy ⟨rfl,rfl⟩ l hl';exact q l _ hl' (aH.new hl') (by rw[aJ,aD (by lia)])
theorem rF:a9 ["top","bottom","divisor"] ["top","bottom"] (aI vH):=by walk_at "d"
theorem kU (T:Txt K mg Z):cE P w K mg base fA 2 Z.Bh Z.A0 ["top","bottom"] El:=by
 refine T.iZ.F.ok rF (λvs H Q E h=>?_) (λcdv A outer s H vs Q E hr h=>?_)
 ·obtain ⟨t,b,rfl,_⟩:=h;rfl
 ·obtain ⟨t,b,rfl,hb,hs,k⟩:=h
  refine ⟨_,(ao (aU (i:=2) rF.nd rfl (Or.inl rfl) (cv (iB T) hr T.d9 (ae (pv 0) (ae (pv 1) ag))))
   (ao (c5 (bu oK (pv 1) aj (bG _)) (aw (aU (i:=2) rF.nd rfl (Or.inl rfl) (ya rn (pv 2)))) bT)
   (aw (a8 (cL (ae (bp fO (pv 0) (pv 2)) (ae (bp fO (pv 1) (pv 2)) ag))))))),?_⟩
  refine aQ (σ:=[some (.int t),some (.int b),none]) rfl ?_;exists ⟨t,b,rfl,?_⟩;have hg:=wC (t:=t) hb
  have hgs:Sz 8999 (g t b):=hs.le (by
   have h1:(g t b).natAbs=Int.gcd t b:=by unfold g;simp
   rw[h1];exact jx (by lia) (by have:=eB (a:=t) (b:=b);exact fv.mpr this |> λz=>by simpa using z))
  have hgn:g (-t) (-b)=g t b:=by unfold g;rw[Int.gcd_neg,Int.neg_gcd]
  exists gC (λh=>?_) (λh=>?_)
  ·have hb0:b < 0:=of_decide_eq_true h;exists eC (show ko _ _ from ⟨by lia,hgs.neg⟩) ?_;exists eC (show ko _ _ from ⟨by lia,hgs.neg⟩) ?_;exists bW λr H' s' h'=>?_
   have e1:t.fdiv (-g t b)=lo (-t) (-b):=by
    unfold Nm.lo;rw[hgn,<- bP _ (by lia),<- Int.neg_fdiv_neg (-t),Int.neg_neg]
   have e2:b.fdiv (-g t b)=hi (-t) (-b):=by
    unfold Nm.hi;rw[hgn,<- bP _ (by lia),<- Int.neg_fdiv_neg (-b),Int.neg_neg]
   exact k r H' s' (by rw[if_pos hb0,if_pos hb0,<- e1,<- e2];exact h')
  ·have hb0:¬b < 0:=λz=>h (decide_eq_true z)
   exists eC (show ko _ _ from ⟨by lia,hgs⟩) ?_;exists eC (show ko _ _ from ⟨by lia,hgs⟩) ?_;exists bW λr H' s' h'=>?_
   rw[bP _ (by lia),bP _ (by lia)] at h';exact k r H' s' (by rw[if_neg hb0,if_neg hb0];exact h')
theorem fK:a9 ["one","other","one_bottom","other_bottom","pairs"] ["one","other"] (aI rJ):=by walk_at "d"
theorem vY (T:Txt K mg Z):cE P w K mg base fA 4 Z.tx Z.sY ["one","other"] (yU K):=by
 refine T.gU.F.ok fK (λvs H Q E h=>?_) (λcdv A outer s H vs Q E hr h=>?_)
 ·obtain ⟨p,q,xs,ys,rfl,_⟩:=h;rfl
 ·obtain ⟨p,q,xs,ys,rfl,hp,hq,hl,hz,⟨k1,j1,k2,j2,h1,h2,hkj⟩,kk⟩:=h
  refine ⟨_,(ao (aU (i:=2) fK.nd rfl (Or.inl rfl) (cv (eS T) hr T.dm (ae (pv 0) ag)))
   (ao (aU (i:=3) fK.nd rfl (Or.inl rfl) (cv (eS T) hr T.dm (ae (pv 1) ag)))
   (ao (aU (i:=4) fK.nd rfl (Or.inl rfl) (vS rfl T.list rfl T.zip (ae (cv (iu T) hr T.ft (ae (pv 0) (ae (pv 2) ag))) (ae (cv (iu T) hr T.ft (ae (pv 1) (ae (pv 3) ag))) ag))))
   (aw (a8 (cv (kU T) hr T.iZ (ae (bO (A8 rfl) (by rfl) T.sum PyProof.Rows.boot_sum (ae (b7 ["mine","yours"] [] [] (cw (pv 4)) (λ_=>(lW K 2 (cB (aN (i:=0) (show ND9 ["mine","yours"] by decide +kernel)) (cB (aN (i:=1) (show ND9 ["mine","yours"] by decide +kernel)) gK)))) (λ_=>b8) (λ_=>(bp cK (pv 0) (pv 1)))) ag)) (ae (bp cK (pv 2) (pv 3)) ag)))))))),?_⟩
  refine aQ (σ:=[some (.ref p),some (.ref q),none,none,none]) rfl ?_;obtain ⟨M,h1⟩:=h1.rowM (by lia);obtain ⟨N,h2⟩:=h2.rowM (by lia);replace hp:=hp.rowK;replace hq:=hq.rowK;replace hl:(ys.map nm).length=(xs.map nm).length:=by simpa using hl
  replace hz:(xs.map nm).length<=1000:=by simpa using hz
  obtain ⟨b1,s1⟩:=h1.bot;obtain ⟨b2,s2⟩:=h2.bot;have k2:∀r H',aH H H'->H' r=some (.tup [.int (lo (Cz (xs.map nm) (ys.map nm)) (dN (xs.map nm)*dN (ys.map nm))),.int (hi (Cz (xs.map nm) (ys.map nm)) (dN (xs.map nm)*dN (ys.map nm)))])->Q (.ref r) H':=λr H' s g=>kk r H' s (bQ.mk g (DI b1 b2))
  clear kk;generalize xs.map nm=ns at hp hq hl hz h1 h2 b1 b2 s1 s2 k2;generalize ys.map nm=ms at hp hq hl hz h1 h2 b1 b2 s1 s2 k2;have hb:0 < dN ns*dN ms:=gI b1 b2;exists ⟨p,ns,M,rfl,hp,hz,h1,λH1 t1=>?_⟩;exists ⟨q,ms,N,rfl,hq.same t1,by lia,h2,λH2 t2=>?_⟩;have u2:=t1.trans t2;exists ⟨p,ns,M,_,rfl,hp.same u2,hz,h1,b1,s1,λr1 H3 n3 t3 g3=>?_⟩;exists ⟨q,ms,N,_,rfl,(hq.same u2).same t3,by lia,h2,b2,s2,λr2 H4 n4 t4 g4=>?_⟩;exists ⟨r1,r2,_,_,rfl,bL.of (t4 _ _ g3),bL.of g4,by simp [c7,hl],λL ts H5 t5 n5 g5 pr=>?_⟩;have lt:=pr.length;have ll:(c7 ns (dN ns)).length=ns.length:=by simp [c7]
  have lm:(c7 ms (dN ms)).length=ns.length:=by simp [c7,hl]
  rw[mP,ak,ak,ll,lm] at lt;exists ⟨⟨_,bL.of g5⟩,?_⟩;refine fW (K:=K) (xs:=ts) (λi ys H'=>H'=H5/\ys=((List.zipWith (λx y=>x*y) (c7 ns (dN ns)) (c7 ms (dN ms))).take i).map V.int) (bf (bK (by lia))) ⟨rfl,rfl⟩ (λi ys H' _ ⟨e,_⟩=>by subst e;exact bL.of g5) ?_ ?_
  ·rintro i x ys H' hx hlen ⟨rfl,rfl⟩;obtain ⟨pq,epq,T,rfl,gT⟩:=ck pr hx;obtain ⟨t,u,et,eu,rfl⟩:=CO epq;exists eC (show fe _ _ from .inr ⟨_,_,pW h1 b1 s1 (ar et),pW h2 b2 s2 (ar eu),by decide⟩) ?_;have ez:(List.zipWith (λx y=>x*y) (c7 ns (dN ns)) (c7 ms (dN ms)))[i]?=some (t*u):=by rw[bx,et,eu]
   exact ⟨rfl,by rw[take_snoc ez];simp⟩
  ·rintro ys H' hy ⟨rfl,rfl⟩ l hl';exists ⟨l,List.zipWith (λx y=>x*y) (c7 ns (dN ns)) (c7 ms (dN ms)),rfl,bL.of (by rw[aJ,aD (by rw[bg];lia)]),?_⟩;exists eC (show fe _ _ from .inr ⟨_,_,s1,s2,by decide⟩) ?_;exists ⟨_,_,rfl,by lia,(s1.mul s2).mono (by decide),λr H6 t6 g6=>?_⟩;rw[if_neg (by lia),if_neg (by lia)] at g6;exact k2 r H6 ((((u2.trans t3).trans t4).trans t5).trans ((aH.new hl').trans t6)) g6
theorem vD:a9 ["grid","row"] ["grid","row"] (aI rM):=by walk_at "d"
theorem Cc (T:Txt K mg Z):cE P w K mg base fA 5 Z.tz Z.sZ ["grid","row"] (yT K):=by
 refine T.i5.F.ok vD (λvs H Q E h=>?_) (λcdv A outer s H vs Q E hr h=>?_)
 ·obtain ⟨p,q,H0,rows,ys,rfl,_⟩:=h;rfl
 ·obtain ⟨p,q,H0,rows,ys,rfl,hp,hq,hz,hl,hr1,kk⟩:=h;refine ⟨_,(aw (a8 (b7 ["line"] ["row"] [1] (cw (pv 0)) (λ_=>(aN (i:=0) (show ND9 ["line","row"] by decide +kernel))) (λ_=>b8) (λ_=>(cv (vY T) hr T.gU (ae (pv 0) (ae (pv 1) ag))))))),?_⟩;refine aQ (σ:=[some (.ref p),some (.ref q)]) rfl ?_;obtain ⟨xs,gx,qx,_⟩:=id hp;exists ⟨⟨_,bL.of gx⟩,?_⟩;refine dd (K:=K) (F:=dA K H0) (bQ K) (λxs=>bI xs ys) gx qx hz (λa b=>a.same b) (λa b=>a.same b) ?_ ?_
  ·rintro i ns x H' NY NN en s ⟨u,rfl,_,hu⟩ k;obtain ⟨e1,e2⟩:=hr1 ns (ar en);exists ⟨u,q,ns,ys,rfl,hu,hq.same s,e1.symm,by lia,e2,λr H2 s2 h2'=>k _ _ s2 h2'⟩
  ·rintro ys' H' r hr s g pr nx;exact kk r H' hr s ⟨ys',g,pr⟩
theorem xr:a9 ["system","rows"] ["system","rows"] (aI lK):=by walk_at "d"
theorem xu (T:Txt K mg Z):cE P w K mg base fA 6 Z.qS Z.qE ["system","rows"] (xT K Z.a_System):=by
 refine T.kI.F.ok xr (λvs H Q E h=>?_) (λcdv A outer s H vs Q E hr h=>?_)
 ·obtain ⟨x,p,H0,H1,mv,pt,lk,R,rfl,_⟩:=h;rfl
 ·obtain ⟨x,p,H0,H1,mv,pt,lk,R,rfl,S,D,G,l100,wR,hf,k⟩:=h;refine ⟨_,(aw (a8 (b7 ["row"] ["system"] [0] (cw (pv 1)) (λ_=>(aN (i:=0) (show ND9 ["row","system"] by decide +kernel))) (λ_=>b8) (λ_=>(cv (Cc T) hr T.i5 (ae (Dp K (pv 1) rfl) (ae (pv 0) ag))))))),?_⟩;refine aQ (σ:=[some (.ref x),some (.ref p)]) rfl ?_;obtain ⟨dx,a',b',c',gx,_,_,_,Ga,Gb,Gc⟩:=id S;have d8:=D.n8;obtain ⟨xs,gxs,qx,_⟩:=id G;exists ⟨⟨_,bL.of gxs⟩,?_⟩;refine dd (K:=K) (F:=dA K H1) (dA K H) (vX mv) gxs qx (by lia) (λa b=>a.same b) (λa b=>a.same b) ?_ ?_
  ·rintro i ns v H' NY NN en s ⟨u,rfl,_,hu⟩ k1;have mn:=ar en;exists ⟨x,Z.a_System,dx,_,_,rfl,s _ _ gx,T.cl_System,T.na_move,Ae,?_⟩;exists ⟨a',u,H0,mv,ns,rfl,Ga.same s,hu,by lia,by rw[wR ns mn];lia,λxs hx=>⟨by rw[D.mw xs hx,wR ns mn],hf xs hx ns mn⟩,λr H2 nr s2 R2=>k1 _ _ s2 ⟨r,rfl,s.none nr,R2⟩⟩
  ·rintro ys H' r hr s g pr nx;exact k r H' hr s ⟨ys,g,pr,kW nx⟩
theorem il:a9 ["system","steps","lists","rows","step"] ["system","steps"] (aI m6):=by walk_at "d"
theorem zq (T:Txt K mg Z):cE P w K mg base fA 7 Z.uu Z.tW ["system","steps"] (As K Z.a_System):=by
 refine T.l9.F.ok il (λvs H Q E h=>?_) (λcdv A outer s H vs Q E hr h=>?_)
 ·obtain ⟨x,u,H0,mv,pt,lk,rfl,_⟩:=h;rfl
 ·obtain ⟨x,u,H0,mv,pt,lk,rfl,hu,S,D,F,k⟩:=h
  refine ⟨_,(ao (aU (i:=2) il.nd rfl (Or.inl rfl) (dB ag))
   (ao (aU (i:=3) il.nd rfl (Or.inl rfl) (jt (pv 0) rfl))
   (ao (dU PassesOwn.never rfl (cg rfl T.range (ae (pv 1) ag)) (aN (i:=4) il.nd)
    (ao (ir (tI cS dh dg iY (pv 2) (ae (pv 3) ag)))
   (aw (aU (i:=3) il.nd rfl (Or.inl rfl) (cv (xu T) hr T.kI (ae (pv 0) (ae (pv 3) ag)))))))
   (aw (a8 (pv 2)))))),?_⟩
  refine aQ (σ:=[some (.ref x),some (.int u),none,none,none]) rfl ?_;obtain ⟨dx,a',b',c',gx,_,_,_,Ga,Gb,Gc⟩:=id S;have d8:=D.n8;have i4:=D.i4;exists c9 λl H1 s1 n1 g1=>?_
  exists ⟨x,Z.a_System,dx,_,_,rfl,s1 _ _ gx,T.cl_System,T.na_put,CU,?_⟩;walk_at "w";obtain ⟨bl,G0⟩:=Gb.off n1;have G1:=G0.same s1;refine ⟨by lia,by lia,?_⟩;refine dW (n:=u) (λi σ' H'=>aH H H'/\∃q us y,σ'=[some (.ref x),some (.int u),some (.ref l),some (.ref q),y]/\q≠l/\H' l=some (.lst us)/\Paired (By K l H') (Bt mv pt i) us/\bR K (zx l) H' q (pt.map (js mv i))) ⟨s1,b',[],_,rfl,bl,g1,.nil,by rw[show pt.map (js mv 0)=pt from j3 pt];exact G1⟩ ?_ ?_
  ·rintro i σ' H' hi ⟨s',q,us,y,rfl,ql,gu,pu,Gq⟩;have lu:=pu.length;have la:(Bt mv pt i).length=i:=by unfold Bt;rw[ak,cm]
   exists ⟨.inl ⟨rfl,_,bL.of gu⟩,?_⟩;exists iT gu (bK (by lia)) ?_;have s2:aH H (upd H' l (.lst (us++[V.ref q]))):=s'.after n1;have g2:(upd H' l (.lst (us++[V.ref q]))) l=some (.lst (us++[V.ref q])):=aJ
   have p2:Paired (By K l (upd H' l (.lst (us++[V.ref q])))) (Bt mv pt (i+1)) (us++[V.ref q]):=by
    rw[DW];exact b9 (Paired.imp' (λ_ _ z=>By.upd z gu) pu) (.cons ⟨q,rfl,ql,Gq.updL gu off_ne ql⟩ .nil)
   have Gq2:=Gq.updL (o:=.lst (us++[V.ref q])) gu off_ne ql;generalize upd H' l (.lst (us++[V.ref q]))=H2 at s2 g2 p2 Gq2 ⊢;walk_at "w"
   refine ⟨x,q,H0,zx l,mv,pt,lk,_,rfl,S.same s2,D,Gq2,by rw[ak];lia,λr hr=>?_,λxs hx r hr=>(by
     obtain ⟨y,hy,rfl⟩:=ay.mp hr;exact ((F.row D.mw D.pw y hy).fit D.mw (D.pw y hy) (by lia)).1 xs hx),λr H3 nr s3 G3=>?_⟩
   ·obtain ⟨y,hy,rfl⟩:=ay.mp hr;exact ou (D.pw y hy) i
   ·have e:(pt.map (js mv i)).map (vX mv)=pt.map (js mv (i+1)):=by rw[vd];rfl
    rw[e] at G3;exact ⟨s2.trans s3,r,_,_,rfl,λz=>(by rw[z,g2] at nr;cases nr),s3 _ _ g2,Paired.imp' (λ_ _ z=>By.same z s3) p2,G3.weakN λq h=>FV λz=>by rw[z,g2] at h;cases h⟩
  ·rintro σ' H' ⟨s',q,us,y,rfl,ql,gu,pu,Gq⟩;exists k l us H' n1 s' gu pu
theorem Fx:a9 ["one","other"] ["one","other"] (aI zh):=by walk_at "d"
theorem FT (T:Txt K mg Z):cE P w K mg base fA 3 Z.DZ Z.DO ["one","other"] (lH K (λx y=>x - y)):=by
 refine T.wd.F.ok Fx (λvs H Q E h=>?_) (λcdv A outer s H vs Q E hr h=>?_)
 ·obtain ⟨p,q,a,b,c,d,rfl,hp,hq,hb,hd,sa,sb,sc,sd,k⟩:=uR h;rfl
 ·obtain ⟨p,q,a,b,c,d,rfl,hp,hq,hb,hd,sa,sb,sc,sd,k⟩:=uR h;refine ⟨_,(aw (a8 (cv (kU T) hr T.iZ (ae (bp jP (bp cK (aS bC (pv 0) aj) (aS bC (pv 1) aj)) (bp cK (aS bC (pv 1) aj) (aS bC (pv 0) aj))) (ae (bp cK (aS bC (pv 0) aj) (aS bC (pv 1) aj)) ag))))),?_⟩;refine aQ (σ:=[some (.ref p),some (.ref q)]) rfl ?_;have hbd:0 < b*d:=gI hb hd;have sbd:Sz 8999 (b*d):=(sb.mul sd).mono (by decide);exists eC (show fe _ _ from .inr ⟨_,_,sa,sd,by decide⟩) ?_;exists eC (show fe _ _ from .inr ⟨_,_,sc,sb,by decide⟩) ?_;exists eC (show fe _ _ from .inr ⟨_,_,sb,sd,by decide⟩) ?_;walk_at "w";exists ⟨_,_,rfl,by lia,sbd,λr H' s' h'=>?_⟩;rw[if_neg (by lia),if_neg (by lia)] at h';exact k r H' s' h'
theorem yY:a9 ["one","other"] ["one","other"] (aI mZ):=by walk_at "d"
theorem zm (T:Txt K mg Z):cE P w K mg base fA 4 Z.uo Z.tT ["one","other"] (rE K):=by
 refine T.l7.F.ok yY (λvs H Q E h=>?_) (λcdv A outer s H vs Q E hr h=>?_)
 ·obtain ⟨p,q,xq,yq,rfl,_⟩:=h;rfl
 ·obtain ⟨p,q,xq,yq,rfl,hp,hq,hl,hz,hn,hm,k⟩:=h;refine ⟨_,(aw (a8 (b7 ["mine","yours"] [] [] (ow rfl T.zip (ae (pv 0) (ae (pv 1) ag))) (λ_=>(lW K 2 (cB (aN (i:=0) (show ND9 ["mine","yours"] by decide +kernel)) (cB (aN (i:=1) (show ND9 ["mine","yours"] by decide +kernel)) gK)))) (λ_=>b8) (λ_=>(cv (FT T) hr T.wd (ae (pv 0) (ae (pv 1) ag))))))),?_⟩;refine aQ (σ:=[some (.ref p),some (.ref q)]) rfl ?_;obtain ⟨xs,gx,qx⟩:=id hp;obtain ⟨ys,gy,qy⟩:=id hq;have lx:=qx.length;have ly:=qy.length;exists ⟨⟨_,bL.of gx⟩,⟨_,bL.of gy⟩,?_⟩;refine nX (K:=K) (xs:=xs) (ws:=ys) (λi zs H'=>aH H H'/\Paired (bQ K H') ((List.zipWith (λx y=>x - y) xq yq).take i) zs) (bf (bK (by lia))) (by lia) ⟨aH.refl _,.nil⟩ (λi zs H' _ ⟨s,_⟩=>⟨bL.of (s _ _ gx),bL.of (s _ _ gy)⟩) ?_ ?_
  ·rintro i x y zs H' r hx hy hlen ⟨s,hP⟩ hr;obtain ⟨n,en,hn1⟩:=ck qx hx;obtain ⟨m,em,hm1⟩:=ck qy hy;have s1:=aH.new (o:=.tup [x,y]) hr;have s01:=s.trans s1;have gr:(upd H' r (.tup [x,y])) r=some (.tup [x,y]):=aJ;generalize upd H' r (.tup [x,y])=Hr at s1 s01 gr ⊢;exists ⟨_,_,n,m,rfl,hn1.same s01,hm1.same s01,hn n (ar en),hm m (ar em),λr3 H3 s3 h3=>?_⟩;refine ⟨s01.trans s3,?_⟩;have ez:(List.zipWith (λx y=>x - y) xq yq)[i]?=some (n - m):=by rw[bx,en,em]
   rw[take_snoc ez];exact b9 (Paired.imp' (λ_ _ z=>z.same (s1.trans s3)) hP) (.cons h3 .nil)
  ·rintro zs H' hy ⟨s,hP⟩ l hl';rw[aD (by rw[bg];lia)] at hP;exact k l _ (s.none hl') (s.trans (aH.new hl')) ⟨zs,aJ,Paired.imp' (λ_ _ z=>z.same (aH.new hl')) hP⟩
theorem vC:a9 ["grid","wide"] ["grid","wide"] (aI kz):=by walk_at "d"
theorem iw (T:Txt K mg Z):cE P w K mg base fA 1 Z.oV Z.oP ["grid","wide"] (Af K):=by
 refine T.eT.F.ok vC (λvs H Q E h=>?_) (λcdv A outer s H vs Q E hr h=>?_)
 ·obtain ⟨p,w,H0,rows,rfl,_⟩:=h;rfl
 ·obtain ⟨p,w,H0,rows,rfl,hp,hz,hw,hl,kk⟩:=h;refine ⟨_,(aw (a8 (b7 ["place"] ["grid"] [0] (cg rfl T.range (ae (pv 1) ag)) (λ_=>(aN (i:=0) (show ND9 ["place","grid"] by decide +kernel) rfl (Or.inr rfl) (Or.inl rfl))) (λ_=>b8) (λ_=>(b7 ["line"] ["place"] [0] (FN K (pv 1)) (λ_=>(aN (i:=0) (show ND9 ["line","place"] by decide +kernel))) (λ_=>b8) (λ_=>(aS (kZ K (by rfl)) (pv 0) (pv 1)))))))),?_⟩;refine aQ (σ:=[some (.ref p),some (.int w)]) rfl ?_;exists ⟨by lia,by lia,?_⟩;refine fV (n:=w) (dA K H) (λj=>rows.map λxs=>xs.getD j 0) hw (λa b=>a.same b) ?_ ?_
  ·rintro j H1 NY NN hj s1 k1;obtain ⟨xs,gx,qx,_⟩:=hp.same s1;exists ⟨⟨_,bL.of gx⟩,?_⟩;refine dd (K:=K) (F:=dA K H0) (bQ K) (λxs=>xs.getD j 0) gx qx hz (λa b=>a.same b) (λa b=>a.same b) ?_ ?_
   ·rintro i ns x H2 NY2 NN2 en s2 ⟨u,rfl,_,zs,gz,qz⟩ k2;obtain ⟨v,ev,hv⟩:=Dz qz (j:=j) (by rw[hl ns (ar en)];exact hj);exists cA (bL.of gz) ev ?_;exact k2 _ _ (aH.refl _) hv
   ·rintro ys' H2 r hr s2 g pr nx;exact k1 _ _ s2 ⟨r,rfl,s1.none hr,ys',g,pr⟩
  ·rintro ys' H1 r hr s1 g pr nx;exact kk r H1 hr s1 ⟨ys',g,pr,kW nx⟩
theorem mE:a9 ["self","state","puts","columns"] ["self","state","puts"] (aI eP):=by walk_at "d"
theorem uM (T:Txt K mg Z):cE P w K mg base fA 5 Z.jY Z.jX ["self","state","puts"] (xU K Z.a_System):=by
 refine T.oi.ok mE (λvs H Q E h=>?_) (λcdv A outer s H vs Q E hr h=>?_)
 ·obtain ⟨x,p,q,H0,mv,pt,lk,st,pu,rfl,_⟩:=h;rfl
 ·obtain ⟨x,p,q,H0,mv,pt,lk,st,pu,rfl,S,D,F,hp,hq,l1,l2,fs,k⟩:=h
  refine ⟨_,(ao (aU (i:=3) mE.nd rfl (Or.inl rfl) (cv (iw T) hr T.eT (ae (jt (pv 0) rfl) (ae (jt (pv 0) rfl) ag))))
   (aw (a8 (b7 ["line","column"] ["state","puts"] [1,2] (ow rfl T.zip (ae (jt (pv 0) rfl) (ae (pv 3) ag))) (λ_=>(lW K 2 (cB (aN (i:=0) (show ND9 ["line","column","state","puts"] by decide +kernel)) (cB (aN (i:=1) (show ND9 ["line","column","state","puts"] by decide +kernel)) gK)))) (λ_=>b8) (λ_=>(cv (vY T) hr T.gU (ae (bp jR (pv 0) (pv 1)) (ae (bp jR (pv 2) (pv 3)) ag)))))))),?_⟩
  refine aQ (σ:=[some (.ref x),some (.ref p),some (.ref q),none]) rfl ?_;obtain ⟨dx,a,b,c,gx,n1,n2,n3,Ga,Gb,Gc⟩:=id S;have d1:=D.n8;have d2:=D.i4;exists ⟨x,Z.a_System,dx,_,_,rfl,gx,T.cl_System,T.na_put,CU,?_⟩;exists ⟨x,Z.a_System,dx,_,_,rfl,gx,T.cl_System,T.na_states,o8,?_⟩;exists ⟨b,mv.length,H0,pt,rfl,Gb,by lia,by lia,D.pw,λt H1 nt s1 Gt=>?_⟩;obtain ⟨as,ga,qa,_⟩:=Ga.same s1;obtain ⟨ts,gt,qt,_⟩:=id Gt;have la:=qa.length;have lt:=qt.length;rw[cZ] at lt;have gx1:=s1 _ _ gx;exists ⟨x,Z.a_System,dx,_,_,rfl,gx1,T.cl_System,T.na_move,Ae,?_⟩;exists ⟨⟨_,bL.of ga⟩,⟨_,bL.of gt⟩,?_⟩;refine nX (K:=K) (xs:=as) (ws:=ts) (λi ys H'=>aH H1 H'/\Paired (bQ K H') ((fD mv pt st pu).take i) ys) (bf (bK (by lia))) (by lia) ⟨aH.refl _,.nil⟩ (λi ys H' _ ⟨s,_⟩=>⟨bL.of (s _ _ ga),bL.of (s _ _ gt)⟩) ?_ ?_
  ·rintro i v1 v2 ys H' r h1 h2 hy ⟨s,pr⟩ hr;obtain ⟨line,el,u1,rfl,_,R1⟩:=ck qa h1;obtain ⟨col,ec,u2,rfl,_,R2⟩:=ck qt h2;have ml:=ar el;have mc:=ar ec;have sr:aH H' (upd H' r (.tup [.ref u1,.ref u2])):=aH.new hr;have gr:(upd H' r (.tup [.ref u1,.ref u2])) r=some (.tup [.ref u1,.ref u2]):=aJ;have s2:=s.trans sr;generalize upd H' r (.tup [.ref u1,.ref u2])=H2 at sr gr s2 ⊢;have lc:col.length=pt.length:=iQ col mc;have ll:line.length=mv.length:=D.mw line ml;obtain ⟨z1,g1,q1⟩:=R1.same s2;obtain ⟨z2,g2,q2⟩:=R2.same s2;have y1:=q1.length;have y2:=q2.length;exists lV g1 g2 (bf (bK (by lia))) λc1 H3 s3 n3' g3=>?_
   have s13:=s2.trans s3;obtain ⟨z3,g4,q3⟩:=(hp.same s1).same s13;obtain ⟨z4,g5,q4⟩:=(hq.same s1).same s13;have y3:=q3.length;have y4:=q4.length;exists lV g4 g5 (bf (bK (by lia))) λc2 H4 s4 n4 g6=>?_
   have s34:=s3.trans s4;exists ⟨c1,c2,line++col,st++pu,rfl,⟨_,s4 _ _ g3,Paired.imp' (λ_ _ z=>z.same s34) (b9 q1 q2)⟩,⟨_,g6,Paired.imp' (λ_ _ z=>z.same s4) (b9 q3 q4)⟩,by rw[ax,ax];lia,by rw[ax];lia,.sys ?_ fs,λr2 H5 s5 h5=>?_⟩
   ·refine F.fits λy hy=>?_
    rcases az.mp hy with hy | hy
    ·exact .inl ⟨line,ml,hy⟩
    ·obtain ⟨j,_,rfl⟩:=ay.mp mc;obtain ⟨xs,hx,rfl⟩:=ay.mp hy;by_cases hj:j < xs.length
     ·refine .inr (.inl ⟨xs,hx,?_⟩);rw[aa,af hj];exact aK hj
     ·exact .inr (.inr (.inr (by rw[aa,aW (by lia)];rfl)))
   ·have em:(fD mv pt st pu)[i]?=some (bI (line++col) (st++pu)):=by
     unfold fD;rw[bx,el,ec]
    refine ⟨((s2.trans s34).trans s5),?_⟩;rw[take_snoc em];exact b9 (Paired.imp' (λ_ _ z=>(z.same (sr.trans s34)).same s5) pr) (.cons h5 .nil)
  ·rintro ys H' hy ⟨s,pr⟩ l hl;have lm:(fD mv pt st pu).length=mv.length:=by unfold fD;rw[bg,cZ];lia
   rw[aD (by lia)] at pr;exact k l _ (s1.none (s.none hl)) ((s1.trans s).trans (aH.new hl)) ⟨ys,aJ,Paired.imp' (λ_ _ z=>z.same (aH.new hl)) pr⟩
theorem rG:a9 ["system","start","puts","states","row"] ["system","start","puts"] (aI vK):=by walk_at "d"
theorem ED (T:Txt K mg Z):cE P w K mg base fA 6 Z.Bl Z.A3 ["system","start","puts"] (vw K Z.a_System):=by
 refine T.sv.F.ok rG (λvs H Q E h=>?_) (λcdv A outer s H vs Q E hr h=>?_)
 ·obtain ⟨x,s,p,H0,H1,mv,pt,lk,pus,st,rfl,_⟩:=h;rfl
 ·obtain ⟨x,s,p,H0,H1,mv,pt,lk,pus,st,rfl,S,D,F,Rs,ls,Gp,lp,wp,cf,k⟩:=h
  refine ⟨_,(ao (aU (i:=3) rG.nd rfl (Or.inl rfl) (dB (ae (fz my (by rfl) T.list PyProof.Rows.boot_list (ae (pv 1) ag)) ag)))
   (ao (dU PassesOwn.never rfl (cw (pv 2)) (aN (i:=4) rG.nd)
    (aw (ir (tI cS dh dg iY (pv 3) (ae (IU (pv 0) T.cl_System T.mG (uM T) (hr.mono (by decide)) T.nZ .nil FO (ae (aS bw (pv 3) (ya rn aj)) (ae (pv 4) ag))) ag)))))
   (aw (a8 (pv 3))))),?_⟩
  refine aQ (σ:=[some (.ref x),some (.ref s),some (.ref p),none,none]) rfl ?_;have d1:=D.n8;obtain ⟨ss,gs,qs⟩:=id Rs;obtain ⟨ps,gp,qp,_⟩:=id Gp;have lps:=qp.length;exists ⟨s,ss,rfl,.inl (bL.of gs),λc hc=>?_⟩;have sc:aH H (upd H c (.lst ss)):=aH.new hc;have Rc:cx K (upd H c (.lst ss)) c st:=⟨ss,aJ,Paired.imp' (λ_ _ z=>z.same sc) qs⟩;generalize upd H c (.lst ss)=Hc at sc Rc ⊢;exists c9 λl Hl sl nl gl=>?_
  have hl0:=sc.none nl;have s0:=sc.trans sl;have cl:c≠l:=λz=>by obtain ⟨_,g,_⟩:=Rc;rw[z,nl] at g;cases g
  have pr0:Paired (tE K H l Hl) ((kf mv pt st pus).take 1) [V.ref c]:=by
   have:(kf mv pt st pus).take 1=[st]:=by
    have e:=take_snoc (oE (mv:=mv) (pt:=pt) (st:=st) (pus:=pus) (k:=0) (bJ _));rw[e];rfl
   rw[this];exact .cons ⟨c,rfl,hc,cl,Rc.same sl⟩ .nil
  exists ⟨⟨_,bL.of (s0 _ _ gp)⟩,?_⟩;refine iH (K:=K) (a:=p) (xs:=ps) (λi σ' H'=>aH H H'/\(∃y ys,σ'=[some (.ref x),some (.ref s),some (.ref p),some (.ref l),y]/\H' l=some (.lst ys)/\Paired (tE K H l H') ((kf mv pt st pus).take (i+1)) ys)) ⟨s0,_,_,rfl,gl,pr0⟩ (λi σ' H' _ ⟨e,_⟩=>bL.of (e _ _ gp)) ?_ ?_
  ·rintro i v σ' H' hv ⟨e,y,ys,rfl,g,pr⟩;obtain ⟨pu,epu,u,rfl,_,Ru⟩:=ck qp hv;have hi:i < pus.length:=(aV.mp epu).1;have mp:=ar epu;have ly:=pr.length;rw[bX,pS] at ly;have ec:=oE (mv:=mv) (pt:=pt) (st:=st) (pus:=pus) (k:=i) (by lia);have el:ys[i]?=some (ys[i]'(by lia)):=af (by lia)
   obtain ⟨vl,evl,q,hq1,hq2,hq3,Rq⟩:∃vl,ys[i]?=some vl/\∃q,vl=V.ref q/\H q=none/\q≠l/\cx K H' q (oG mv pt st pus i):=by
    obtain ⟨xs,ex,w⟩:=ck pr el;rw[jy (by lia),ec] at ex;cases ex;exact ⟨_,el,w⟩
   subst hq1
   have ey:∃zs,ys=zs++[V.ref q]:=by
    refine ⟨ys.take i,?_⟩;rw[<- take_snoc evl,aD (by lia)]
   obtain ⟨zs,rfl⟩:=ey;exists ⟨.inl ⟨rfl,_,bL.of g⟩,?_⟩;walk_at "w";obtain ⟨dx,_,_,_,gx,_⟩:=S.same e;refine ⟨x,dx,_,rfl,gx,Ei,?_⟩;exists cA (bL.of g) (Be _ _) ?_;exists ⟨x,q,u,H0,mv,pt,lk,_,pu,rfl,S.same e,D,F,Rq,Ru.same e,j6 ls (by lia),wp pu mp,cf.both (by lia) mp,λr1 H2 n2 s2 R2=>?_⟩;have gn:=s2 _ _ g;exists iT gn (bK (by lia)) ?_;refine ⟨Er (e.trans s2) hl0,_,_,rfl,aJ,?_⟩;rw[take_snoc (oE (by lia)),mU epu];have rl:r1≠l:=λz=>by rw[z,g] at n2;cases n2
   exact b9 (Paired.imp' (λ_ _ z=>(tE.same z s2).upd gn) pr) (.cons ⟨r1,rfl,e.none n2,rl,R2.updL gn rl⟩ .nil)
  ·rintro σ' H' ⟨e,y,ys,rfl,g,pr⟩;walk_at "w";rw[aD (by rw[pS];lia)] at pr;exact k l H' hl0 e ⟨ys,g,Paired.imp' (λ_ _ z=>tE.rowF z) pr,vN pr⟩
theorem xp:a9 ["many"] ["many"] (aI lJ):=by walk_at "d"
theorem kG (T:Txt K mg Z):cE P w K mg base fA 1 Z.qR Z.qD ["many"] (Kl K):=by
 refine T.gB.F.ok xp (λvs H Q E h=>?_) (λcdv A outer s H vs Q E hr h=>?_)
 ·obtain ⟨m,rfl,_⟩:=h;rfl
 ·obtain ⟨m,rfl,hm,k⟩:=h;refine ⟨_,(aw (a8 (b7 ["place"] [] [] (cg rfl T.range (ae (pv 0) ag)) (λ_=>(aN (i:=0) (show ND9 ["place"] by decide +kernel))) (λ_=>b8) (λ_=>(p9 (v:=.ref Z.a_NOUGHT) rfl T.mg_NOUGHT rfl))))),?_⟩;refine aQ (σ:=[some (.int m)]) rfl ?_;exists ⟨by lia,by lia,?_⟩;refine fV (n:=m) (bQ K) (λ_=>0) (by lia) (λa b=>a.same b) ?_ ?_
  ·rintro i Ha NY NN hi sa k1;exists k1 _ _ (aH.refl _) ⟨_,rfl,T.sq_NOUGHT _⟩
  ·rintro ys H1 t ht s1 g1 pr _;exact k t H1 ht s1 ⟨ys,g1,by rw[<- F2];exact pr⟩
theorem vB:a9 ["system","steps"] ["system","steps"] (aI ky):=by walk_at "d"
theorem vZ (T:Txt K mg Z):cE P w K mg base fA 2 Z.oU Z.oO ["system","steps"] (Ak K Z.a_System):=by
 refine T.jU.F.ok vB (λvs H Q E h=>?_) (λcdv A outer s H vs Q E hr h=>?_)
 ·obtain ⟨x,tt,H0,mv,pt,lk,rfl,_⟩:=h;rfl
 ·obtain ⟨x,tt,H0,mv,pt,lk,rfl,hT,S,D,k⟩:=h;refine ⟨_,(aw (a8 (b7 ["step"] ["system"] [0] (cg rfl T.range (ae (pv 1) ag)) (λ_=>(aN (i:=0) (show ND9 ["step","system"] by decide +kernel))) (λ_=>b8) (λ_=>(cv (kG T) hr T.gB (ae (Dp K (pv 1) rfl) ag)))))),?_⟩;refine aQ (σ:=[some (.ref x),some (.int tt)]) rfl ?_;obtain ⟨dx,a',b',c',gx,_,_,_,Ga,Gb,Gc⟩:=id S;have i4:=D.i4;exists ⟨by lia,by lia,?_⟩;refine fV (n:=tt) (dA K H) (λ(_:Nat)=>List.replicate pt.length (0:Rat)) (by lia) (λa b=>a.same b) ?_ ?_
  ·rintro i Hb NY NN hi sa k1;exists ⟨x,Z.a_System,dx,_,_,rfl,sa _ _ gx,T.cl_System,T.na_ins,HZ,?_⟩;exists ⟨pt.length,rfl,by lia,λr H2 nr s2 R2=>k1 _ _ s2 ⟨r,rfl,sa.none nr,R2⟩⟩
  rintro ys Hz t ht sz g pr nx;have e:(List.range tt).map (λ(_:Nat)=>List.replicate pt.length (0:Rat))=List.replicate tt (List.replicate pt.length 0):=by rw[mO,cm]
  rw[e] at pr nx;exact k t Hz ht sz ⟨ys,g,pr,kW nx⟩
theorem BM:a9 ["system","start","goal","steps"] ["system","start","goal","steps"] (aI rL):=by walk_at "d"
theorem Cb (T:Txt K mg Z):cE P w K mg base fA 7 Z.yD Z.yo ["system","start","goal","steps"] (Ap K Z.a_System):=by
 refine T.pO.F.ok BM (λvs H Q E h=>?_) (λcdv A outer s H vs Q E hr h=>?_)
 ·obtain ⟨x,s,g,tt,H0,mv,pt,lk,st,go,rfl,_⟩:=h;rfl
 ·obtain ⟨x,s,g,tt,H0,mv,pt,lk,st,go,rfl,hT,S,D,F,Rs,ls,Rg,lg,cf,sg,k⟩:=h;refine ⟨_,(aw (a8 (cv (zm T) hr T.l7 (ae (pv 2) (ae (aS bw (cv (ED T) hr T.sv (ae (pv 0) (ae (pv 1) (ae (cv (vZ T) hr T.jU (ae (pv 0) (ae (pv 3) ag))) ag)))) (ya rn aj)) ag))))),?_⟩;refine aQ (σ:=[some (.ref x),some (.ref s),some (.ref g),some (.int tt)]) rfl ?_;have d8:=D.n8;have i4:=D.i4;exists ⟨x,tt,H0,mv,pt,lk,rfl,by lia,S,D,λp1 H1 n1 s1 G1=>?_⟩;exists ⟨x,s,p1,H0,H,mv,pt,lk,_,st,rfl,S.same s1,D,F,Rs.same s1,ls,G1,by rw[aL];lia,λxs hx=>by rw[(dk.mp hx).2,aL],cf,λp2 H2 n2 s2 G2=>?_⟩;obtain ⟨us,gu,qu,_⟩:=id G2;have lu:=qu.length;rw[pS,aL] at lu;have ec:=oE (mv:=mv) (pt:=pt) (st:=st) (pus:=List.replicate tt (List.replicate pt.length 0)) (k:=tt) (by rw[aL];exact av _);have el:us[tt]?=some (us[tt]'(by lia)):=af (by lia)
  obtain ⟨q,eq,Rq⟩:∃q,us[tt]?=some (V.ref q)/\cx K H2 q (js mv tt st):=by
   obtain ⟨xs,ex,q,e,_,w⟩:=ck qu el;rw[ec] at ex;cases ex;rw[BI D ls] at w;exact ⟨q,by rw[el,e],w⟩
  have ey:∃zs,us=zs++[V.ref q]:=by
   refine ⟨us.take tt,?_⟩;rw[<- take_snoc eq,aD (by lia)]
  obtain ⟨zs,rfl⟩:=ey
  have szp:∀y∈js mv tt st,gL y:=λy hy=>by
   have:=(cf.state (k:=tt) (by rw[aL];exact av _)).szn (x:=y);rw[BI D ls] at this;exact this hy
  exists cA (bL.of gu) (Be _ _) ?_;exists ⟨g,q,go,_,rfl,(Rg.same s1).same s2,Rq,by rw[lg,ou ls],by lia,sg,szp,λr H3 n3 s3 R3=>k r H3 ((s1.trans s2).none n3) ((s1.trans s2).trans s3) R3⟩
theorem oI:a9 ["lines","begin","place","at"] ["lines","begin","place"] (aI lN):=by walk_at "d"
theorem xx (T:Txt K mg Z):cE P w K mg base fA 1 Z.qU Z.qG ["lines","begin","place"] xY:=by
 refine T.kK.F.ok oI (λvs H Q E h=>?_) (λcdv A outer s H vs Q E hr h=>?_)
 ·obtain ⟨l,p,ls,b,c,rfl,_⟩:=h;rfl
 ·obtain ⟨l,p,ls,b,c,rfl,G,l1000,b1000,hc,k1,k2⟩:=h
  refine ⟨_,(ao (dU PassesOwn.never rfl (Ex rfl T.range (ae (pv 1) (ae (bO bD (by rfl) T.len bB (ae (pv 0) ag)) ag))) (aN (i:=3) oI.nd)
    (aw (c5 (bu yd (aS bw (aS bw (pv 0) (pv 3)) (pv 2)) aj (bG _)) (aw (a8 (pv 3))) bT)))
   (aw (a8 pG))),?_⟩
  refine aQ (σ:=[some (.ref p),some (.int b),some (.int c),none]) rfl ?_;obtain ⟨_,xs,gx,qx⟩:=id G;have lx:=qx.length;exists ⟨_,_,rfl,.inl (bL.of gx),?_⟩;rw[<- lx];exists ⟨⟨by lia,by lia,by lia,by lia⟩,?_⟩;refine yj (lo:=(b:Int)) (n:=((ls.length:Int) - (b:Int)).toNat) (λi σ' H'=>H'=H/\(∃y,σ'=[some (.ref p),some (.int b),some (.int c),y])/\∀s,b<=s->s < b+i->dX ls s c=0) ⟨rfl,⟨_,rfl⟩,λs h1 h2=>absurd h2 (by lia)⟩ ?_ ?_
  ·rintro i σ' H' hi ⟨rfl,⟨y,rfl⟩,hz⟩;rw[show ((b:Int)+(i:Int))=((b+i:Nat):Int) by lia];obtain ⟨zs,v,ez,ev,mz,q,rfl,_,gq⟩:=iX qx (i:=b+i) (by lia);exists cA (bL.of gx) (fF ev) ?_;exists cA (bL.of gq) (xI (hc zs mz)) ?_;walk_at "w";have ef:=Kc (c:=c) ez;by_cases e:zs.getD c 0=0
   ·rw[decide_eq_true e];exists ⟨rfl,⟨_,rfl⟩,λs h1 h2=>?_⟩;by_cases e2:s=b+i
    ·rw[e2,ef,e];rfl
    ·exact hz s h1 (by lia)
   ·rw[decide_eq_false e];exists k1 (b+i) (by lia) (by lia) (by rw[ef];exact MQ.mpr e)
  ·rintro σ' H' ⟨rfl,⟨y,rfl⟩,hz⟩;exists k2 λt h1 h2=>hz t h1 (by lia)
theorem lI:a9 ["lines","at","place","before","used","by","swept"] ["lines","at","place","before"] (aI rN):=by walk_at "d"
theorem Cd (T:Txt K mg Z):cE P w K mg base fA 1 Z.yE Z.yp ["lines","at","place","before"] xZ:=by
 refine T.pP.F.ok lI (λvs H Q E h=>?_) (λcdv A outer s H vs Q E hr h=>?_)
 ·obtain ⟨l,p,ls,kk,c,n,b,rfl,_⟩:=h;rfl
 ·obtain ⟨l,p,ls,kk,c,n,b,rfl,hl,G,l1000,hk,hw,n1000,hc,b0,sb,hs,k⟩:=h
  refine ⟨_,(ao (aU (i:=4) lI.nd rfl (Or.inr rfl) (aS bw (pv 0) (pv 1)))
   (ao (aU (i:=5) lI.nd rfl (Or.inr rfl) (aS bw (pv 4) (pv 2)))
   (ao (j9 6 ["line"] ["used","by","place","before"] [4,5,2,3] lI.nd rfl rfl (cw (pv 0)) (λ_=>(aN (i:=0) (show ND9 ["line","used","by","place","before"] by decide +kernel) rfl (Or.inr rfl) (Or.inl rfl))) (λ_=>b8) (λ_=>(b7 ["mine","yours"] ["by","line","place","before"] [2,0,3,4] (FL K rfl T.zip (ae (pv 0) (ae (pv 1) ag))) (λ_=>(lW K 2 (cB (aN (i:=0) (show ND9 ["mine","yours","by","line","place","before"] by decide +kernel)) (cB (aN (i:=1) (show ND9 ["mine","yours","by","line","place","before"] by decide +kernel)) gK)))) (λ_=>b8) (λ_=>(bp fO (bp jP (bp cK (pv 2) (pv 0)) (bp cK (aS (kZ K (by rfl)) (pv 3) (pv 4)) (pv 1))) (pv 5))))))
   (ao (eQ (pv 4) (fN (pv 6) (pv 1) set_list))
   (aw (a8 (pv 6))))))),?_⟩
  refine aQ (σ:=[some (.ref p),some (.int kk),some (.int c),some (.int b),none,none,none]) rfl ?_;obtain ⟨pl,xs,gx,qx⟩:=id G;have lx:=qx.length;obtain ⟨zk,vk,ek,evk,mk,qk,rfl,qkl,gk⟩:=iX qx hk;have wk:=hw zk mk;have ek':ls.getD kk []=zk:=by rw[aa,ek];rfl
  exists cA (bL.of gx) (fF evk) ?_;exists cA (bL.of gk) (xI (by lia)) ?_;exists ⟨⟨_,bL.of gx⟩,?_⟩;refine fW (K:=K) (xs:=xs) (λi ys H'=>aH H H'/\Paired (D4 l H') ((ls.take i).map λzs=>List.zipWith (λx y=>(zk.getD c 0*x - zs.getD c 0*y).fdiv b) zs zk) ys) (bf (bK (by lia))) ⟨aH.refl _,.nil⟩ (λi ys H' _ ⟨s,_⟩=>bL.of (s _ _ gx)) ?_ ?_
  ·rintro i v ys0 H' hx hlen ⟨s',pr⟩;obtain ⟨zs,ec,q,rfl,ql,gq⟩:=ck qx hx;have mz:=ar ec;have wz:=hw zs mz;have gq':=s' _ _ gq;have gk':=s' _ _ gk;exists ⟨⟨_,bL.of gq'⟩,⟨_,bL.of gk'⟩,?_⟩;refine nX (K:=K) (xs:=zs.map V.int) (ws:=zk.map V.int) (λj ys H2=>aH H' H2/\ys=((List.zipWith (λx y=>(zk.getD c 0*x - zs.getD c 0*y).fdiv b) zs zk).take j).map V.int) (bf (bK (by rw[ak];lia))) (by rw[ak,ak];lia) ⟨aH.refl _,rfl⟩ (λj ys H2 _ ⟨s2,_⟩=>⟨bL.of (s2 _ _ gq'),bL.of (s2 _ _ gk')⟩) ?_ ?_
   ·rintro j v1 v2 ys H2 r h1 h2 hy ⟨s2,rfl⟩ hr
    obtain ⟨x,ex,rfl⟩:∃x,zs[j]?=some x/\V.int x=v1:=by
     rw[aB] at h1;cases e:zs[j]? with
     | none=>rw[e] at h1;cases h1
     | some x=>rw[e] at h1;exact ⟨x,rfl,bY h1⟩
    obtain ⟨y,ey,rfl⟩:∃y,zk[j]?=some y/\V.int y=v2:=by
     rw[aB] at h2;cases e:zk[j]? with
     | none=>rw[e] at h2;cases h2
     | some x=>rw[e] at h2;exact ⟨x,rfl,bY h2⟩
    have sr:aH H2 (upd H2 r (.tup [.int x,.int y])):=aH.new hr;have gr:(upd H2 r (.tup [.int x,.int y])) r=some (.tup [.int x,.int y]):=aJ;generalize upd H2 r (.tup [.int x,.int y])=H3 at sr gr ⊢;have gq3:=sr _ _ (s2 _ _ gq');have sx:=hs zs mz x (ar ex);have sy:=hs zk mk y (ar ey);have s1:=hs zk mk _ (getD_in (e:=0) (show c < zk.length by lia));have s3:=hs zs mz _ (getD_in (e:=0) (show c < zs.length by lia));exists eC (show fe _ _ from .inr ⟨_,_,s1,sx,by decide⟩) ?_;exists cA (bL.of gq3) (xI (by lia)) ?_;exists eC (show fe _ _ from .inr ⟨_,_,s3,sy,by decide⟩) ?_;exists eC (show ko _ _ from ⟨b0,sb⟩) ?_;have ez:(List.zipWith (λx y=>(zk.getD c 0*x - zs.getD c 0*y).fdiv b) zs zk)[j]?=some ((zk.getD c 0*x - zs.getD c 0*y).fdiv b):=by rw[bx,ex,ey]
    exact ⟨s2.trans sr,by rw[take_snoc ez];simp⟩
   ·rintro ys H2 hy ⟨s2,rfl⟩ r hr;have sn:aH H2 (upd H2 r (.lst (((List.zipWith (λx y=>(zk.getD c 0*x - zs.getD c 0*y).fdiv b) zs zk).take (zs.map V.int).length).map V.int))):=aH.new hr;refine ⟨(s'.trans s2).trans sn,?_⟩;rw[take_snoc ec,cX];refine b9 (Paired.imp' (λ_ _ z=>(D4.same z s2).same sn) pr) (.cons ⟨r,rfl,ne_old (λz=>hl (s'.none (s2.none z))) hr,?_⟩ .nil);rw[aJ,aD (by rw[bg,ak];lia)]
  ·rintro ys H1 hy ⟨s1,pr⟩ r hr;have sn:aH H1 (upd H1 r (.lst ys)):=aH.new hr;have gn:(upd H1 r (.lst ys)) r=some (.lst ys):=aJ;have ly:=pr.length;rw[ak,bX] at ly;generalize upd H1 r (.lst ys)=H2 at sn gn ⊢;exists d6 gn (eN (by lia)) rfl ?_;have s2:aH H1 (upd H2 r (.lst (ys.set kk (.ref qk)))):=sn.after hr;exists k r _ (s1.none hr) (s1.trans s2) ⟨ne_old (λz=>hl (s1.none z)) hr,_,aJ,?_⟩;unfold A4;rw[ek'];rw[aD (by lia)] at pr;exact iV (Paired.imp' (λ_ _ z=>D4.same z s2) pr) kk ⟨qk,rfl,qkl,(s1.trans s2) _ _ gk⟩
theorem oJ:a9 ["lines","at","to","swapped"] ["lines","at","to"] (aI lO):=by walk_at "d"
theorem xy (T:Txt K mg Z):cE P w K mg base fA 1 Z.qV Z.qH ["lines","at","to"] tG:=by
 refine T.kL.F.ok oJ (λvs H Q E h=>?_) (λcdv A outer s H vs Q E hr h=>?_)
 ·obtain ⟨l,p,ls,t,kk,rfl,_⟩:=h;rfl
 ·obtain ⟨l,p,ls,t,kk,rfl,hl,G,l1000,ht,hk,k⟩:=h
  refine ⟨_,(ao (aU (i:=3) oJ.nd rfl (Or.inl rfl) (fz my (by rfl) T.list PyProof.Rows.boot_list (ae (pv 0) ag)))
   (ao (eQ (aS bw (pv 0) (pv 1)) (fN (pv 3) (pv 2) set_list))
   (ao (eQ (aS bw (pv 0) (pv 2)) (fN (pv 3) (pv 1) set_list))
   (aw (a8 (pv 3)))))),?_⟩
  refine aQ (σ:=[some (.ref p),some (.int t),some (.int kk),none]) rfl ?_;obtain ⟨pl,xs,gx,qx⟩:=id G;have lx:=qx.length;obtain ⟨zt,vt,et,evt,_,Ft⟩:=iX qx ht;obtain ⟨zk,vk,ek,evk,_,Fk⟩:=iX qx hk;exists ⟨p,xs,rfl,.inl (bL.of gx),λc hc=>?_⟩;have sc:aH H (upd H c (.lst xs)):=aH.new hc;have gc:(upd H c (.lst xs)) c=some (.lst xs):=aJ;generalize upd H c (.lst xs)=Hc at sc gc ⊢;exists cA (bL.of (sc _ _ gx)) (fF evt) ?_;exists d6 gc (eN (by lia)) rfl ?_;have s1:aH H (upd Hc c (.lst (xs.set kk vt))):=sc.after hc;have g1:(upd Hc c (.lst (xs.set kk vt))) c=some (.lst (xs.set kk vt)):=aJ;generalize upd Hc c (.lst (xs.set kk vt))=H1 at s1 g1 ⊢;exists cA (bL.of (s1 _ _ gx)) (fF evk) ?_;exists d6 g1 (eN (by rw[dM];lia)) rfl ?_;have s2:aH H (upd H1 c (.lst ((xs.set kk vt).set t vk))):=s1.after hc;exists k c _ hc s2 ⟨ne_old hl hc,_,aJ,?_⟩;have et':ls.getD t []=zt:=by rw[aa,et];rfl
  have ek':ls.getD kk []=zk:=by rw[aa,ek];rfl
  unfold lF;rw[et',ek'];exact iV (iV (Paired.imp' (λ_ _ z=>D4.same z s2) qx) kk (D4.same Ft s2)) t (D4.same Fk s2)
theorem ik:a9 ["rows","wide","lines","leads","before","place","many","at"] ["rows","wide"] (aI zf):=by walk_at "d"
theorem FQ (T:Txt K mg Z):cE P w K mg base fA 4 Z.DX Z.DM ["rows","wide"] (xP K):=by
 refine T.v9.F.ok ik (λvs H Q E h=>?_) (λcdv A outer s H vs Q E hr h=>?_)
 ·obtain ⟨p,n,w,H0,rows,rfl,_⟩:=h;rfl
 ·obtain ⟨p,n,w,H0,rows,rfl,G,r100,n100,hw,F,k⟩:=h
  refine ⟨_,(ao (j9 2 ["row"] [] [] ik.nd rfl rfl (cw (pv 0)) (λ_=>(aN (i:=0) (show ND9 ["row"] by decide +kernel))) (λ_=>b8) (λ_=>(cv (iu T) hr T.ft (ae (pv 0) (ae (cv (eS T) hr T.dm (ae (pv 0) ag)) ag)))))
   (ao (aU (i:=3) ik.nd rfl (Or.inl rfl) (dB ag))
   (ao (aU (i:=4) ik.nd rfl (Or.inl rfl) aj)
   (ao (dU PassesOwn.never rfl (cg rfl T.range (ae (pv 1) ag)) (aN (i:=5) ik.nd)
    (ao (aU (i:=6) ik.nd rfl (Or.inl rfl) (bO bD (by rfl) T.len bB (ae (pv 3) ag)))
   (ao (aU (i:=7) ik.nd rfl (Or.inl rfl) (cv (xx T) hr T.kK (ae (pv 2) (ae (pv 6) (ae (pv 5) ag)))))
   (aw (c5 (bu zl (pv 7) pG (bG _)) (ao (aU (i:=2) ik.nd rfl (Or.inl rfl) (cv (Cd T) hr T.pP (ae (cv (xy T) hr T.kL (ae (pv 2) (ae (pv 7) (ae (pv 6) ag)))) (ae (pv 6) (ae (pv 5) (ae (pv 4) ag))))))
   (ao (aU (i:=4) ik.nd rfl (Or.inl rfl) (aS bw (aS bw (pv 2) (pv 6)) (pv 5)))
   (aw (ir (tI cS dh dg iY (pv 3) (ae (pv 5) ag)))))) bT)))))
   (aw (a8 (cL (ae (AH Dc (pv 2) Dn (Dm (bO bD (by rfl) T.len bB (ae (pv 3) ag)))) (ae (pv 3) ag))))))))),?_⟩
  refine aQ (σ:=[some (.ref p),some (.int n),none,none,none,none,none,none]) rfl ?_;obtain ⟨xs,gx,qx,_⟩:=id G;obtain ⟨W,hW,W2,ent⟩:=F.ent;obtain ⟨_,_,_,_,_,_,_,_,r15,r89⟩:=id F;exists ⟨⟨_,bL.of gx⟩,?_⟩;refine dd (K:=K) (as:=rows) (F:=dA K H0) (λ(H:Hp) (zs:List Int) (v:V)=>∃q,v=V.ref q/\H q=some (.lst (zs.map V.int))) jl gx qx (by lia) (λa b=>a.same b) (λ⟨q,a,b⟩ s=>⟨q,a,s _ _ b⟩) ?_ ?_
  ·rintro i qs v H' NY NN ec s' ⟨u,rfl,_,R⟩ k1;have mx:=ar ec;obtain ⟨M,hM⟩:=F.rowM mx;obtain ⟨b1,sb⟩:=hM.bot;have lq:(qs.map nm).length<=1000:=by rw[ak,hw qs mx];lia
   exists ⟨u,_,M,rfl,R.rowK,lq,hM,λH2 s2=>?_⟩;exists ⟨u,_,M,_,rfl,(R.same s2).rowK,lq,hM,b1,sb,λr H3 n3 s3 g3=>k1 _ _ (s2.trans s3) ⟨r,rfl,g3⟩⟩
  rintro ys H1 lp0 hlp s1 g1 pr1 nx1;exists c9 λqp H2 s2 nq gq=>?_
  have G2:og qp H2 lp0 (rows.map jl):=⟨(λz=>by rw[z,nq] at g1;cases g1),ys,s2 _ _ g1,Paired.imp' (λ_ _ ⟨q,a,b⟩=>⟨q,a,(λz=>by rw[z,nq] at b;cases b),s2 _ _ b⟩) pr1⟩;have hq0:H qp=none:=s1.none nq;have s02:=s1.trans s2;have hm:(rows.map jl).length=rows.length:=ak ..;clear g1 pr1 nx1;exists ⟨by lia,by lia,?_⟩;refine dW (n:=n) (λP σ' H'=>aH H H'/\∃lp ls ps d y1 y2 y3,σ'=[some (.ref p),some (.int n),some (.ref lp),some (.ref qp),some (.int d),y1,y2,y3]/\H' qp=some (.lst (ka ps))/\og qp H' lp ls/\yH (rows.map jl) n P ls ps d) ⟨s02,lp0,rows.map jl,[],1,_,_,_,rfl,gq,G2,yH.start λzs hz=>by obtain ⟨x,hx,rfl⟩:=ay.mp hz;rw[pX];exact hw x hx⟩ ?_ ?_
  ·rintro P σ' H' hP ⟨s',lp,ls,ps,d,y1,y2,y3,rfl,gq',G',I⟩;have hl:=I.len;have kP:=I.el.kP;have km:=I.el.km;have lps:(ka ps).length=ps.length:=ak ..;have hqp:H' qp≠none:=by rw[gq'];exact λz=>nomatch z
   obtain ⟨z1,z2⟩:=I.sz (r:=min rows.length n) hW ent (by lia) (by rw[hm];exact av _) r15;have big:(16*W)^min rows.length n < 2^8999:=be (BV W2) (cU (by decide) (by lia));exists ⟨_,_,rfl,.inl (bL.of gq'),?_⟩;rw[lps];exists ⟨qp,lp,ls,ps.length,P,rfl,G',by lia,by lia,λzs hz=>by rw[I.wide zs hz];exact hP,λt h1 h2 h3=>?_,λhz=>?_⟩
   ·exists ⟨rfl,_,rfl,?_⟩;rw[show decide (V.int (t:Int)=V.non)=false from decide_eq_false (λz=>nomatch z)];exists ⟨qp,lp,ls,t,ps.length,rfl,hqp,G',by lia,h2,by lia,λl1 Ha na sa Ga=>?_⟩;exists ⟨qp,l1,_,ps.length,P,n,d,rfl,λz=>hqp (sa.none z),Ga,by rw[rB];lia,by rw[rB];lia,CV I.wide (by lia) h2,by lia,hP,I.d0,be z1 big,λzs hz z hz'=>?_,λl2 Hb nb sb Gb=>?_⟩
    ·unfold lF at hz;have key:∀ys,ys∈ls->∀z∈ys,Sz 8999 z:=λys hy z hz=>be (z2 ys hy z hz) big
     rcases bZ hz with h | h
     ·rcases bZ h with h | h
      ·exact key zs h z hz'
      ·rw[h] at hz';exact key _ (getD_in h2) z hz'
     ·rw[h] at hz';exact key _ (getD_in (by lia)) z hz'
    have sab:=sa.trans sb;have I2:=I.step hW ent h1 h2 h3;have hk2:ps.length < (A4 (lF ls ps.length t) ps.length P d).length:=by rw[GN,rB];lia
    obtain ⟨n2,xs2,gx2,qx2⟩:=id Gb;obtain ⟨zk,vk,ek,evk,mk,qk,rfl,_,gk⟩:=iX qx2 hk2;have wk:=I2.wide zk mk;exists cA (bL.of gx2) (fF evk) ?_;exists cA (bL.of gk) (xI (by lia)) ?_;have gqb:=sab _ _ gq';exists ⟨.inl ⟨rfl,_,bL.of gqb⟩,?_⟩;exists iT gqb (bK (by lia)) ?_;refine ⟨(s'.trans sab).after hq0,l2,_,ps++[P],_,_,_,_,rfl,?_,Gb.upd,?_⟩
    ·rw[aJ];unfold ka;rw[cX];rfl
    ·have e:(A4 (lF ls ps.length t) ps.length P d).getD ps.length []=zk:=by rw[aa,ek];rfl
     rw[e] at I2;exact I2
   ·exists ⟨rfl,_,rfl,?_⟩;rw[show decide (V.non=V.non)=true from decide_eq_true rfl];exists ⟨s',lp,ls,ps,d,_,_,_,rfl,gq',G',I.skip hz⟩
  rintro σ' H' ⟨s',lp,ls,ps,d,y1,y2,y3,rfl,gq',G',I⟩;obtain ⟨R,hR⟩:=I.done hw F;have lps:(ka ps).length=ps.length:=ak ..;obtain ⟨nl,xs',gx',qx'⟩:=id G';exists ⟨_,_,rfl,.inl (bL.of gq'),?_⟩;rw[lps];exists Kt (bL.of gx') λsl H3 s3 n3 g3=>?_
  rw[GH] at g3;exists bW λt H4 s4 g4=>?_
  have s34:=s3.trans s4;exact k t sl qp R ps d _ H4 g4 (s34 _ _ gq') ⟨(λz=>by rw[z,gq'] at n3;cases n3),_,s4 _ _ g3,Paired.imp' (λ_ _ z=>D4.same z s34) (tJ qx' ps.length)⟩ (s'.trans s34) hR
theorem kT:a9 ["rows","wide","due","found","answer","line","lead"] ["rows","wide","due"] (aI vF):=by walk_at "d"
theorem ye (T:Txt K mg Z):cE P w K mg base fA 5 Z.Bf Z.AY ["rows","wide","due"] (vn K):=by
 refine T.oy.F.ok kT (λvs H Q E h=>?_) (λcdv A outer s H vs Q E hr h=>?_)
 ·obtain ⟨p,q,n,w,H0,rows,due,rfl,_⟩:=h;rfl
 ·obtain ⟨p,q,n,w,H0,rows,due,rfl,G,Rd,hd,m99,n99,hw,F,k1,k2⟩:=h
  refine ⟨_,(ao (aU (i:=3) kT.nd rfl (Or.inl rfl) (cv (FQ T) hr T.v9 (ae (b7 ["row","wanted"] [] [] (ow rfl T.zip (ae (pv 0) (ae (pv 2) ag))) (λ_=>(lW K 2 (cB (aN (i:=0) (show ND9 ["row","wanted"] by decide +kernel)) (cB (aN (i:=1) (show ND9 ["row","wanted"] by decide +kernel)) gK)))) (λ_=>b8) (λ_=>(bp jR (pv 0) (dB (ae (pv 1) ag))))) (ae (bp dG (pv 1) aj) ag))))
   (ao (c5 (bu Ez (pv 1) (aS bC (pv 3) aj) (by with_unfolding_all rfl)) (aw (a8 pG)) bT)
   (ao (aU (i:=4) kT.nd rfl (Or.inl rfl) (cv (kG T) hr T.gB (ae (pv 1) ag)))
   (ao (dU PassesOwn.never rfl (ow rfl T.zip (ae (aS bC (pv 3) aj) (ae (aS bC (pv 3) aj) ag))) (rY rfl (cB (aN (i:=5) kT.nd) (cB (aN (i:=6) kT.nd) gK)))
    (aw (eQ (cv (kU T) hr T.iZ (ae (aS bw (pv 5) (pv 1)) (ae (aS bw (pv 5) (pv 6)) ag))) (fN (pv 4) (pv 6) set_list))))
   (aw (a8 (pv 4))))))),?_⟩
  refine aQ (σ:=[some (.ref p),some (.int n),some (.ref q),none,none,none,none]) rfl ?_;obtain ⟨xs,gx,qx,_⟩:=id G;obtain ⟨ds,gd,qd⟩:=id Rd;have lx:=qx.length;have ld:=qd.length;have lj:=nO hd;exists ⟨⟨_,bL.of gx⟩,⟨_,bL.of gd⟩,?_⟩;refine nX (K:=K) (xs:=xs) (ws:=ds) (λi ys H'=>aH H H'/\Paired (dA K H H') ((eI rows due).take i) ys) (bf (bK (by lia))) (by lia) ⟨aH.refl _,.nil⟩ (λi ys H' _ ⟨s,_⟩=>⟨bL.of (s _ _ gx),bL.of (s _ _ gd)⟩) ?_ ?_
  ·rintro i v1 v2 ys H' r h1 h2 hy ⟨s,pr⟩ hr;obtain ⟨row,er,u,rfl,_,Ru⟩:=ck qx h1;obtain ⟨d,ed,nd⟩:=ck qd h2;have wr:=hw row (ar er);have sr:aH H' (upd H' r (.tup [.ref u,v2])):=aH.new hr;have gr:(upd H' r (.tup [.ref u,v2])) r=some (.tup [.ref u,v2]):=aJ;generalize upd H' r (.tup [.ref u,v2])=H2 at sr gr ⊢;have s2:=s.trans sr;exists c9 λl1 H3 s3 n3 g3=>?_
   have s23:=s2.trans s3;obtain ⟨zs,gz,qz⟩:=Ru.same s23;have lz:=qz.length;exists lV gz g3 (bf (bK (by rw[de];lia))) λl2 H4 s4 n4 g4=>?_
   refine ⟨s23.trans s4,?_⟩;rw[take_snoc (JR er ed)];exact b9 (Paired.imp' (λ_ _ z=>dA.same z ((sr.trans s3).trans s4)) pr) (.cons ⟨l2,rfl,s23.none n4,_,g4,Paired.imp' (λ_ _ z=>bQ.same z s4) (b9 qz (.cons (nd.same s23) .nil))⟩ .nil)
  rintro ys H1 hy ⟨s1,pr⟩ l hl;have sn:aH H1 (upd H1 l (.lst ys)):=aH.new hl;have gn:(upd H1 l (.lst ys)) l=some (.lst ys):=aJ;rw[aD (by lia)] at pr;generalize upd H1 l (.lst ys)=H2 at sn gn ⊢;have GJ:bR K H H2 l (eI rows due):=ET pr sn hl gn;have s02:=s1.trans sn;walk_at "w";rw[show ((n:Int)+1)=((n+1:Nat):Int) by lia];refine ⟨l,n+1,w,H,_,rfl,GJ,by lia,by lia,Jf hw,F,λt lp qp R ps d ls H3 gt gq GZ s3 S=>?_⟩;have s03:=s02.trans s3;have pn:=S.rr.le;exists ⟨qp,ka ps,rfl,.inl (bL.of gq),rfl,EJ,?_⟩;rw[F9];by_cases hn:n∈ps
  ·rw[decide_eq_true hn,show (if false=true then !true else true)=true from rfl];exists k2 R ps H3 S.rr hn s03
  ·rw[decide_eq_false hn,show (if false=true then !false else false)=false from rfl];obtain ⟨lR,wR,rr⟩:=id S.rr;obtain ⟨_,zs,gz,qz⟩:=id GZ;have lz:=qz.length;have hl':=S.len
   have low:∀j,j < ps.length->ps.getD j 0 < n:=λj hj=>by
    have:=rr.low j hj;have:ps.getD j 0≠n:=λz=>hn (by rw[<- z];exact getD_in hj)
    lia
   obtain ⟨_,_,_,_,_,_,_,_,_,e89⟩:=id F;rw[lj] at e89;have dsz:Sz 8999 d:=be S.dsz (cU (by decide) (by rw[lj];lia));have lps:=FW (ps:=ps);exists ⟨n,rfl,by lia,λan H4 na s4 R4=>?_⟩;rw[<- Ii (R:=R) (ps:=ps)] at R4;obtain ⟨vs0,g0,q0⟩:=id R4;have gt4:=s4 _ _ gt;exists ⟨⟨_,bL.of (s4 _ _ gz)⟩,⟨_,bL.of (s4 _ _ gq)⟩,?_⟩;refine Jm (K:=K) (xs:=zs) (ws:=ka ps) (λj σ' H'=>aH H3 H'/\∃y1 y2 vs,σ'=[some (.ref p),some (.int n),some (.ref q),some (.ref t),some (.ref an),y1,y2]/\H' an=some (.lst vs)/\Paired (bQ K H') (p0 R ps n j) vs) (by lia) ⟨s4,_,_,vs0,rfl,g0,q0⟩ (λj σ' H' _ ⟨e,_⟩=>⟨bL.of (e _ _ gz),bL.of (e _ _ gq)⟩) ?_ ?_
   ·rintro j v1 v2 σ' H' r h1 h2 ⟨s',y1,y2,vs,rfl,ga,qa⟩ hr;obtain ⟨line,el,u,rfl,_,gu⟩:=ck qz h1;have wl:=S.wide line (ar el);obtain ⟨pj,ej,rfl⟩:=Je h2;have hj:j < ps.length:=(aV.mp ej).1;have ejD:ps.getD j 0=pj:=by rw[aa,ej];rfl
    have pjn:=low j hj;rw[ejD] at pjn;have v0:=S.val j n;rw[Kc el] at v0
    have ed:line.getD pj 0=d:=by
     have h:=S.val j pj;rw[Kc el] at h;have u:=rr.unit j hj j hj;rw[if_pos rfl,ejD] at u;rw[u,Rat.mul_one] at h;exact dj.mp h
    have sr:aH H' (upd H' r (.tup [.ref u,.int pj])):=aH.new hr;have gr:(upd H' r (.tup [.ref u,.int pj])) r=some (.tup [.ref u,.int pj]):=aJ;generalize upd H' r (.tup [.ref u,.int pj])=H5 at sr gr ⊢;have gu5:=(s'.trans sr) _ _ gu;exists cA (bL.of gu5) (xI (by lia)) ?_;exists cA (bL.of gu5) (xI (by lia)) ?_;rw[ed];exists ⟨_,d,rfl,S.d0,dsz,λr6 H6 s6 g6=>?_⟩;have d0:(d:Rat)≠0:=λz=>S.d0 (qP z)
    have n6:bQ K H6 (cY R j n) (.ref r6):=by
     refine bQ.mk g6 ?_;rcases Int.lt_or_lt_of_ne S.d0 with hd' | hd'
     ·rw[if_pos hd',if_pos hd'];refine oz (by lia) ?_;rw[ib,ib,v0];grind
     ·rw[if_neg (by lia),if_neg (by lia)];refine oz hd' ?_;rw[v0];grind
    have ga6:=(sr.trans s6) _ _ ga;have la:=qa.length;rw[jM] at la;exists d6 ga6 (eN (by lia)) rfl ?_;refine ⟨((s'.trans sr).trans s6).after na,_,_,_,rfl,aJ,?_⟩;rw[<- Ij S.rr hj,ejD];exact iV (Paired.imp' (λ_ _ z=>(bQ.same z (sr.trans s6)).updL ga6) qa) pj (n6.updL ga6)
   ·rintro σ' H' ⟨s',y1,y2,vs,rfl,ga,qa⟩;rw[show zs.length=ps.length by lia] at qa;exists k1 an R ps d.natAbs H' S.rr hn (s03.none na) (s03.trans s') ⟨vs,ga,qa⟩ (by have:=S.d0;lia) (by rw[<- lj];exact S.dsz) ?_;rw[<- lj];exact LX (by have:=S.d0;lia) S.tp S.rr
theorem vA:a9 ["rows","wide","due","answer","columns"] ["rows","wide","due"] (aI zg):=by walk_at "d"
theorem FR (T:Txt K mg Z):cE P w K mg base fA 6 Z.DY Z.DN ["rows","wide","due"] (xR K):=by
 refine T.wa.F.ok vA (λvs H Q E h=>?_) (λcdv A outer s H vs Q E hr h=>?_)
 ·obtain ⟨p,q,n,w,H0,rows,due,rfl,_⟩:=h;rfl
 ·obtain ⟨p,q,n,w,H0,rows,due,rfl,G,Rd,hd,m90,n90,hw,F,F1,k1⟩:=h
  refine ⟨_,(ao (aU (i:=3) vA.nd rfl (Or.inl rfl) (cv (ye T) hr T.oy (ae (pv 0) (ae (pv 1) (ae (pv 2) ag)))))
   (ao (c5 (bu zl (pv 3) pG (bG _)) (aw (a8 (cL (ae vR (ae (pv 3) ag))))) bT)
   (ao (aU (i:=4) vA.nd rfl (Or.inl rfl) (cv (iw T) hr T.eT (ae (pv 0) (ae (pv 1) ag))))
   (aw (a8 (cL (ae vR (ae (cv (ye T) hr T.oy (ae (bp jR (pv 4) (dB (ae (pv 2) ag))) (ae (bO bD (by rfl) T.len bB (ae (pv 0) ag)) (ae (bp jR (cv (kG T) hr T.gB (ae (pv 1) ag)) (dB (ae (p9 (v:=.ref Z.a_ONE) rfl T.mg_ONE rfl) ag))) ag)))) ag)))))))),?_⟩
  refine aQ (σ:=[some (.ref p),some (.int n),some (.ref q),none,none]) rfl ?_;exists ⟨p,q,n,w,H0,rows,due,rfl,G,Rd,hd,by lia,by lia,hw,F,λx R ps M H1 RR hn nx s1 Rx M0 M1 tM=>?_,λR ps H1 RR hn s1=>absurd hn (F1 R ps RR)⟩;exists ⟨rfl,_,rfl,?_⟩;rw[show decide (V.ref x=V.non)=false from decide_eq_false (λz=>nomatch z)];exists bW λt H2 s2 g2=>?_
  exact k1 t x R ps H2 RR g2 nx (s1.trans s2) (Rx.same s2)
theorem y8:a9 ["lists","joined","each"] ["lists"] (aI BP):=by walk_at "d"
theorem Ds (T:Txt K mg Z):cE P w K mg base fA 1 Z.GS Z.GC ["lists"] Aq:=by
 refine T.uT.F.ok y8 (λvs H Q E h=>?_) (λcdv A outer s H vs Q E hr h=>?_)
 ·obtain ⟨p,us,zss,rfl,_⟩:=h;rfl
 ·obtain ⟨p,us,zss,rfl,gx,qx,hl,k⟩:=h
  refine ⟨_,(ao (aU (i:=1) y8.nd rfl (Or.inl rfl) (dB ag))
   (ao (dU PassesOwn.never rfl (cw (pv 0)) (aN (i:=2) y8.nd)
    (aw (ir (tI cS PySem.F.slot_list_extend PySem.F.type_list_extend EK (pv 1) (ae (pv 2) ag)))))
   (aw (a8 (pv 1))))),?_⟩
  refine aQ (σ:=[some (.ref p),none,none]) rfl ?_;have lx:=qx.length;exists c9 λj H1 s1 n1 g1=>?_
  exists ⟨⟨_,bL.of (s1 _ _ gx)⟩,?_⟩;refine iH (K:=K) (a:=p) (xs:=us) (λi σ' H'=>aH H H'/\∃x:Option V,σ'=[some (.ref p),some (.ref j),x]/\H' j=some (.lst (zss.take i).flatten)) ⟨s1,none,rfl,g1⟩ (λi σ' H' _ ⟨s,_⟩=>bL.of (s _ _ gx)) ?_ ?_
  ·rintro i x σ' H' hx ⟨s,y,rfl,gj⟩;obtain ⟨zs,ez,q,rfl,gz⟩:=ck qx hx;have tl:(zss.take (i+1)).flatten=(zss.take i).flatten++zs:=by rw[take_snoc ez,oo];simp
   have bl:(zss.take i).flatten.length+zs.length<=1000:=by
    have e:zss.flatten=(zss.take (i+1)).flatten++(zss.drop (i+1)).flatten:=by rw[<- oo,List.take_append_drop]
    rw[e,tl,ax,ax] at hl
    lia
   exists ⟨.inl ⟨rfl,_,bL.of gj⟩,?_⟩;exists ⟨j,q,_,zs,rfl,rfl,gj,s _ _ gz,bf (bK (by lia)),?_⟩;exact ⟨s.after n1,_,rfl,by rw[aJ,tl]⟩
  ·rintro σ' H' ⟨s,y,rfl,gj⟩;rw[aD (by lia)] at gj;exists k j H' n1 s gj
theorem qe (T:Txt K mg Z):cE P w K mg base fA 4 Z.tx Z.sY ["one","other"] (C7 K):=by
 refine T.gU.F.ok fK (λvs H Q E h=>?_) (λcdv A outer s H vs Q E hr h=>?_)
 ·obtain ⟨p,q,xs,ys,rfl,_⟩:=h;rfl
 ·obtain ⟨p,q,xs,ys,rfl,hp,hq,hl,hz,⟨⟨M,h1⟩,⟨N,h2⟩⟩,kk⟩:=h
  refine ⟨_,(ao (aU (i:=2) fK.nd rfl (Or.inl rfl) (cv (eS T) hr T.dm (ae (pv 0) ag)))
   (ao (aU (i:=3) fK.nd rfl (Or.inl rfl) (cv (eS T) hr T.dm (ae (pv 1) ag)))
   (ao (aU (i:=4) fK.nd rfl (Or.inl rfl) (vS rfl T.list rfl T.zip (ae (cv (iu T) hr T.ft (ae (pv 0) (ae (pv 2) ag))) (ae (cv (iu T) hr T.ft (ae (pv 1) (ae (pv 3) ag))) ag))))
   (aw (a8 (cv (kU T) hr T.iZ (ae (bO (A8 rfl) (by rfl) T.sum PyProof.Rows.boot_sum (ae (b7 ["mine","yours"] [] [] (cw (pv 4)) (λ_=>(lW K 2 (cB (aN (i:=0) (show ND9 ["mine","yours"] by decide +kernel)) (cB (aN (i:=1) (show ND9 ["mine","yours"] by decide +kernel)) gK)))) (λ_=>b8) (λ_=>(bp cK (pv 0) (pv 1)))) ag)) (ae (bp cK (pv 2) (pv 3)) ag)))))))),?_⟩
  refine aQ (σ:=[some (.ref p),some (.ref q),none,none,none]) rfl ?_;replace hp:=hp.rowK;replace hq:=hq.rowK;replace hl:(ys.map nm).length=(xs.map nm).length:=by simpa using hl
  replace hz:(xs.map nm).length<=1000:=by simpa using hz
  obtain ⟨b1,s1⟩:=h1.bot;obtain ⟨b2,s2⟩:=h2.bot;have k2:∀r H',aH H H'->H' r=some (.tup [.int (lo (Cz (xs.map nm) (ys.map nm)) (dN (xs.map nm)*dN (ys.map nm))),.int (hi (Cz (xs.map nm) (ys.map nm)) (dN (xs.map nm)*dN (ys.map nm)))])->Q (.ref r) H':=λr H' s g=>kk r H' s (bQ.mk g (DI b1 b2))
  clear kk;generalize xs.map nm=ns at hp hq hl hz h1 h2 b1 b2 s1 s2 k2;generalize ys.map nm=ms at hp hq hl hz h1 h2 b1 b2 s1 s2 k2;have hb:0 < dN ns*dN ms:=gI b1 b2;exists ⟨p,ns,M,rfl,hp,hz,h1,λH1 t1=>?_⟩;exists ⟨q,ms,N,rfl,hq.same t1,by lia,h2,λH2 t2=>?_⟩;have u2:=t1.trans t2;exists ⟨p,ns,M,_,rfl,hp.same u2,hz,h1,b1,s1,λr1 H3 n3 t3 g3=>?_⟩;exists ⟨q,ms,N,_,rfl,(hq.same u2).same t3,by lia,h2,b2,s2,λr2 H4 n4 t4 g4=>?_⟩;exists ⟨r1,r2,_,_,rfl,bL.of (t4 _ _ g3),bL.of g4,by simp [c7,hl],λL ts H5 t5 n5 g5 pr=>?_⟩;have lt:=pr.length;have ll:(c7 ns (dN ns)).length=ns.length:=by simp [c7]
  have lm:(c7 ms (dN ms)).length=ns.length:=by simp [c7,hl]
  rw[mP,ak,ak,ll,lm] at lt;exists ⟨⟨_,bL.of g5⟩,?_⟩;refine fW (K:=K) (xs:=ts) (λi ys H'=>H'=H5/\ys=((List.zipWith (λx y=>x*y) (c7 ns (dN ns)) (c7 ms (dN ms))).take i).map V.int) (bf (bK (by lia))) ⟨rfl,rfl⟩ (λi ys H' _ ⟨e,_⟩=>by subst e;exact bL.of g5) ?_ ?_
  ·rintro i x ys H' hx hlen ⟨rfl,rfl⟩;obtain ⟨pq,epq,T,rfl,gT⟩:=ck pr hx;obtain ⟨t,u,et,eu,rfl⟩:=CO epq;exists eC (show fe _ _ from .inr ⟨_,_,pW h1 b1 s1 (ar et),pW h2 b2 s2 (ar eu),by decide⟩) ?_;have ez:(List.zipWith (λx y=>x*y) (c7 ns (dN ns)) (c7 ms (dN ms)))[i]?=some (t*u):=by rw[bx,et,eu]
   exact ⟨rfl,by rw[take_snoc ez];simp⟩
  ·rintro ys H' hy ⟨rfl,rfl⟩ l hl';exists ⟨l,List.zipWith (λx y=>x*y) (c7 ns (dN ns)) (c7 ms (dN ms)),rfl,bL.of (by rw[aJ,aD (by rw[bg];lia)]),?_⟩;exists eC (show fe _ _ from .inr ⟨_,_,s1,s2,by decide⟩) ?_;exists ⟨_,_,rfl,by lia,(s1.mul s2).mono (by decide),λr H6 t6 g6=>?_⟩;rw[if_neg (by lia),if_neg (by lia)] at g6;exact k2 r H6 ((((u2.trans t3).trans t4).trans t5).trans ((aH.new hl').trans t6)) g6
theorem qi (T:Txt K mg Z):cE P w K mg base fA 5 Z.tz Z.sZ ["grid","row"] (C4 K):=by
 refine T.i5.F.ok vD (λvs H Q E h=>?_) (λcdv A outer s H vs Q E hr h=>?_)
 ·obtain ⟨p,q,H0,rows,ys,rfl,_⟩:=h;rfl
 ·obtain ⟨p,q,H0,rows,ys,rfl,hp,hq,hz,hl,hr1,kk⟩:=h;refine ⟨_,(aw (a8 (b7 ["line"] ["row"] [1] (cw (pv 0)) (λ_=>(aN (i:=0) (show ND9 ["line","row"] by decide +kernel))) (λ_=>b8) (λ_=>(cv (qe T) hr T.gU (ae (pv 0) (ae (pv 1) ag))))))),?_⟩;refine aQ (σ:=[some (.ref p),some (.ref q)]) rfl ?_;obtain ⟨xs,gx,qx,_⟩:=id hp;exists ⟨⟨_,bL.of gx⟩,?_⟩;refine dd (K:=K) (F:=dA K H0) (bQ K) (λxs=>bI xs ys) gx qx hz (λa b=>a.same b) (λa b=>a.same b) ?_ ?_
  ·rintro i ns x H' NY NN en s ⟨u,rfl,_,hu⟩ k;obtain ⟨e1,e2⟩:=hr1 ns (ar en);exists ⟨u,q,ns,ys,rfl,hu,hq.same s,e1.symm,by lia,e2,λr H2 s2 h2'=>k _ _ s2 h2'⟩
  ·rintro ys' H' r hr s g pr nx;exact kk r H' hr s ⟨ys',g,pr⟩
theorem oH:a9 ["one","other","wide","columns"] ["one","other","wide"] (aI lM):=by walk_at "d"
theorem xv (T:Txt K mg Z):cE P w K mg base fA 6 Z.qT Z.qF ["one","other","wide"] (vv K):=by
 refine T.kJ.F.ok oH (λvs H Q E h=>?_) (λcdv A outer s H vs Q E hr h=>?_)
 ·obtain ⟨p,q,w,H0,H1,one,other,rfl,_⟩:=h;rfl
 ·obtain ⟨p,q,w,H0,H1,one,other,rfl,hp,hq,z1,z2,hw,h1,h2,kk⟩:=h
  refine ⟨_,(ao (aU (i:=3) oH.nd rfl (Or.inr rfl) (cv (iw T) hr T.eT (ae (pv 1) (ae (pv 2) ag))))
   (aw (a8 (b7 ["line"] ["columns"] [3] (cw (pv 0)) (λ_=>(aN (i:=0) (show ND9 ["line","columns"] by decide +kernel))) (λ_=>b8) (λ_=>(cv (qi T) hr T.i5 (ae (pv 1) (ae (pv 0) ag)))))))),?_⟩
  refine aQ (σ:=[some (.ref p),some (.ref q),some (.int w),none]) rfl ?_;exists ⟨q,w,H1,other,rfl,hq,z2,hw,h2,λc H2 nc s2 hc=>?_⟩;obtain ⟨xs,gx,qx,_⟩:=hp.same s2;exists ⟨⟨_,bL.of gx⟩,?_⟩;refine dd (K:=K) (F:=dA K H0) (dA K H) (λxs=>(cJ other w).map λys=>bI ys xs) gx qx z1 (λa b=>a.same b) (λa b=>a.same b) ?_ ?_
  ·rintro i ns x H3 NY NN en s3 ⟨u,rfl,_,hu⟩ k;obtain ⟨e1,e2⟩:=h1 ns (ar en);exists ⟨c,u,H,cJ other w,ns,rfl,hc.same s3,hu,by simp [cJ];lia,by lia,λys hy=>⟨?_,e2 ys hy⟩,λr H4 nr s4 hr=>k _ _ s4 ⟨r,rfl,s2.none (s3.none nr),hr⟩⟩;obtain ⟨j,_,rfl⟩:=ay.mp hy;rw[ak];exact e1.symm
  ·rintro ys' H3 r hr s3 g pr nx;exact kk r H3 (s2.none hr) (s2.trans s3) ⟨ys',g,pr,kW nx⟩
theorem Eo:a9 ["one","other"] ["one","other"] (aI vG):=by walk_at "d"
theorem EA (T:Txt K mg Z):cE P w K mg base fA 3 Z.Bg Z.AZ ["one","other"] (vo K):=by
 refine T.rZ.F.ok Eo (λvs H Q E h=>?_) (λcdv A outer s H vs Q E hr h=>?_)
 ·obtain ⟨u,v,x,y,rfl,hx,hy,y0,sx,sy,k⟩:=h;rfl
 ·obtain ⟨u,v,x,y,rfl,hx,hy,y0,sx,sy,k⟩:=h;obtain ⟨p,rfl,gp⟩:=id hx;obtain ⟨q,rfl,gq⟩:=id hy
  refine ⟨_,(ao (c5 (bu eH (aS bC (pv 1) aj) aj (bG _)) (aw Dj) bT)
   (aw (a8 (cv (kU T) hr T.iZ (ae (bp cK (aS bC (pv 0) aj) (aS bC (pv 1) aj)) (ae (bp cK (aS bC (pv 0) aj) (aS bC (pv 1) aj)) ag)))))),?_⟩
  refine aQ (σ:=[some (.ref p),some (.ref q)]) rfl ?_;obtain ⟨hb,e⟩:=Jd (x:=x) y0;have yn:0 < (nm y).1:=mN.mp y0;walk_at "w";rw[decide_eq_false (show ¬((nm y).1=0) by lia)];exists eC (show fe _ _ from .inr ⟨_,_,sx.1,sy.2,by decide⟩) ?_;exists eC (show fe _ _ from .inr ⟨_,_,sx.2,sy.1,by decide⟩) ?_;exists ⟨_,_,rfl,by lia,(sx.2.mul sy.1).mono (by decide),λr H' s' h'=>?_⟩;rw[if_neg (by lia),if_neg (by lia)] at h';exact k r H' s' (bQ.mk h' e)
theorem yZ:a9 ["weights","row"] ["weights","row"] (aI m4):=by walk_at "d"
theorem qh (T:Txt K mg Z):cE P w K mg base fA 4 Z.uq Z.tU ["weights","row"] (C1 K):=by
 refine T.jE.F.ok yZ (λvs H Q E h=>?_) (λcdv A outer s H vs Q E hr h=>?_)
 ·obtain ⟨p,q,wq,xq,rfl,_⟩:=h;rfl
 ·obtain ⟨p,q,wq,xq,rfl,hp,hq,hl,hz,hw,hx,k⟩:=h;refine ⟨_,(aw (a8 (b7 ["value","weight"] [] [] (ow rfl T.zip (ae (pv 1) (ae (pv 0) ag))) (λ_=>(lW K 2 (cB (aN (i:=0) (show ND9 ["value","weight"] by decide +kernel)) (cB (aN (i:=1) (show ND9 ["value","weight"] by decide +kernel)) gK)))) (λ_=>b8) (λ_=>(cv (EA T) hr T.rZ (ae (pv 0) (ae (pv 1) ag))))))),?_⟩;refine aQ (σ:=[some (.ref p),some (.ref q)]) rfl ?_;obtain ⟨ws,gw,qw⟩:=id hp;obtain ⟨xs,gx,qx⟩:=id hq;have lx:=qx.length;have lw:=qw.length;exists ⟨⟨_,bL.of gx⟩,⟨_,bL.of gw⟩,?_⟩;refine nX (K:=K) (xs:=xs) (ws:=ws) (λi zs H'=>aH H H'/\Paired (bQ K H') ((uS wq xq).take i) zs) (bf (bK (by lia))) (by lia) ⟨aH.refl _,.nil⟩ (λi zs H' _ ⟨s,_⟩=>⟨bL.of (s _ _ gx),bL.of (s _ _ gw)⟩) ?_ ?_
  ·rintro i x y zs H' r h1 h2 hlen ⟨s,hP⟩ hr;obtain ⟨n,en,hn1⟩:=ck qx h1;obtain ⟨m,em,hm1⟩:=ck qw h2;obtain ⟨w0,w1⟩:=hw m (ar em);have s1:=aH.new (o:=.tup [x,y]) hr;have s01:=s.trans s1;have gr:(upd H' r (.tup [x,y])) r=some (.tup [x,y]):=aJ;generalize upd H' r (.tup [x,y])=Hr at s1 s01 gr ⊢;exists ⟨_,_,n,m,rfl,hn1.same s01,hm1.same s01,w0,hx n (ar en),w1,λr3 H3 s3 h3=>?_⟩;refine ⟨s01.trans s3,?_⟩;have ez:(uS wq xq)[i]?=some (n / m):=by unfold uS;rw[bx,en,em]
   rw[take_snoc ez];exact b9 (Paired.imp' (λ_ _ z=>z.same (s1.trans s3)) hP) (.cons h3 .nil)
  ·rintro zs H' hy ⟨s,hP⟩ l hl';rw[aD (by unfold uS;rw[bg];lia)] at hP;exact k l _ (s.none hl') (s.trans (aH.new hl')) ⟨zs,aJ,Paired.imp' (λ_ _ z=>z.same (aH.new hl')) hP⟩
theorem oq:a9 ["weights","lists","wide","rows","all_weights","columns"] ["weights","lists","wide"] (aI vI):=by walk_at "d"
theorem EB (T:Txt K mg Z):cE P w K mg base fA 7 Z.Bi Z.A1 ["weights","lists","wide"] (C2 K):=by
 refine T.r8.F.ok oq (λvs H Q E h=>?_) (λcdv A outer s H vs Q E hr h=>?_)
 ·obtain ⟨q,l,n,us,Rs,ws,rfl,_⟩:=h;rfl
 ·obtain ⟨q,l,n,us,Rs,ws,rfl,Rq,gl,pl,n1,l1,f1,fw,hx,hw,rc,k⟩:=h
  refine ⟨_,(ao (aU (i:=3) oq.nd rfl (Or.inl rfl) (cv (Ds T) hr T.uT (ae (pv 1) ag)))
   (ao (aU (i:=4) oq.nd rfl (Or.inr rfl) (cv (Ds T) hr T.uT (ae (b7 ["each"] ["weights"] [0] (cw (pv 1)) (λ_=>(aN (i:=0) (show ND9 ["each","weights"] by decide +kernel))) (λ_=>b8) (λ_=>(pv 1))) ag)))
   (ao (aU (i:=5) oq.nd rfl (Or.inl rfl) (cv (iw T) hr T.eT (ae (pv 3) (ae (pv 2) ag))))
   (aw (a8 (cv (xv T) hr T.kJ (ae (b7 ["column"] ["all_weights"] [4] (cw (pv 5)) (λ_=>(aN (i:=0) (show ND9 ["column","all_weights"] by decide +kernel))) (λ_=>b8) (λ_=>(cv (qh T) hr T.jE (ae (pv 1) (ae (pv 0) ag))))) (ae (pv 3) (ae (pv 2) ag))))))))),?_⟩
  refine aQ (σ:=[some (.ref q),some (.ref l),some (.int n),none,none,none]) rfl ?_;have lu:=pl.length;obtain ⟨zss,pz,pr⟩:=AV pl;have pf:=lX pr;have lf:=pf.length;exists ⟨l,us,zss,rfl,gl,pz,by lia,λr1 H1 nr1 s1 g1=>?_⟩;have G1:bR K (λ_=>none) H1 r1 Rs.flatten:=⟨_,g1,Paired.imp' (λ_ _ ⟨a,b,_,d⟩=>⟨a,b,rfl,d.same s1⟩) pf,kW ⟨H,nr1,pf⟩⟩;obtain ⟨wz,gw,qw⟩:=id Rq;exists ⟨⟨_,bL.of (s1 _ _ gl)⟩,?_⟩;refine dd (K:=K) (F:=λ_ (_:LR9) _=>True) (λ_ (_:LR9) v=>v=V.ref q) id (as:=Rs) (s1 _ _ gl) (Paired.imp' (λ_ _ _=>trivial) pl) (by lia) (λa b=>a) (λa b=>a) ?_ ?_
  ·rintro i c x H' NY NN ec s' _ k1;exists k1 _ _ (aH.refl _) rfl
  rintro ys H2 r2 nr2 s2 g2 pr2 _;rw[j3] at pr2;have s02:=s1.trans s2;have py:Paired (λzs u=>∃q,u=V.ref q/\H2 q=some (.lst zs)) (List.replicate Rs.length wz) ys:=vO (λ_ y e=>⟨q,e,s02 _ _ gw⟩) pr2;have pw:=lX (De (G:=λR zs=>Paired (bQ K H) R zs) qw Rs.length);have lw:=pw.length;exists ⟨r2,ys,_,rfl,g2,py,by unfold ve at fw;lia,λr3 H3 nr3 s3 g3=>?_⟩;have s03:=s02.trans s3;have R3:cx K H3 r3 (ve ws Rs.length):=⟨_,g3,Paired.imp' (λ_ _ z=>z.same s03) pw⟩;have s13:=s2.trans s3;exists ⟨r1,n,_,_,rfl,G1.same s13,f1,by lia,λxs h=>(hx xs h).1,λr4 H4 nr4 s4 G4=>?_⟩;obtain ⟨cs,gc,qc,_⟩:=id G4;have lc:=qc.length;rw[cZ] at lc;exists ⟨⟨_,bL.of gc⟩,?_⟩;refine dd (K:=K) (F:=dA K H3) (dA K H3) (uS (ve ws Rs.length)) gc qc (by rw[cZ];lia) (λa b=>a.same b) (λa b=>a.same b) ?_ ?_
  ·rintro i c x H' NY NN ec s' ⟨u,rfl,nu,Ru⟩ k1;have mc:=ar ec;have wc:=iQ c mc;exists ⟨r3,u,_,c,rfl,R3.same (s4.trans s'),Ru,by rw[fw,wc],by lia,λw h=>hw w (yP h),vf hx c mc,λr5 H5 nr5 s5 R5=>k1 _ _ s5 ⟨r5,rfl,(s4.trans s').none nr5,R5⟩⟩
  rintro zs H5 r5 nr5 s5 g5 pr5 nx5;have G5:bR K H3 H5 r5 ((cJ Rs.flatten n).map (uS (ve ws Rs.length))):=⟨zs,g5,pr5,kW nx5⟩;have s15:=(s13.trans s4).trans s5;exists ⟨r5,r1,n,_,_,_,_,rfl,G5,G1.same s15,by rw[ak,cZ];lia,f1,by lia,λxs h=>?_,λxs h=>(hx xs h).1,λr6 H6 nr6 s6 G6=>k r6 _ H6 ((s1.trans s15).none nr6) ((s1.trans s15).trans s6) G6⟩;obtain ⟨ys',hy,rfl⟩:=ay.mp h;refine ⟨?_,λzs hz=>⟨(rc zs hz).1,(rc ys' hy).2⟩⟩;unfold uS;rw[bg,fw,iQ ys' hy,kr]
theorem Io:a9 ["system","start","goal","steps","used","rows","answer","latest_first"] ["system","start","goal","steps"] (aI BQ):=by walk_at "d"
theorem Jb (T:Txt K mg Z):cE P w K mg base fA 1 Z.GU Z.GD ["system","start","goal","steps"] Ie:=T.zA.F.ok Io (λvs H Q E h=>(show False from h).elim) (λcdv A outer s H vs Q E hr h=>(show False from h).elim)
theorem BL:a9 ["price","weights","lists"] ["price","weights","lists"] (aI rK):=by walk_at "d"
theorem Ca (T:Txt K mg Z):cE P w K mg base fA 6 Z.yC Z.ym ["price","weights","lists"] (Ai K):=by
 refine T.pN.F.ok BL (λvs H Q E h=>?_) (λcdv A outer s H vs Q E hr h=>?_)
 ·obtain ⟨p,q,l,us,Rs,ws,x,rfl,_⟩:=h;rfl
 ·obtain ⟨p,q,l,us,Rs,ws,x,rfl,Rp,Rq,gl,pl,l1,l2,l3,rx,hw,hR,k⟩:=h;refine ⟨_,(aw (a8 (b7 ["rows"] ["weights","price"] [1,0] (KS rfl T.reversed (ae (pv 2) ag)) (λ_=>(aN (i:=0) (show ND9 ["rows","weights","price"] by decide +kernel))) (λ_=>b8) (λ_=>(cv (qh T) hr T.jE (ae (pv 1) (ae (cv (qi T) hr T.i5 (ae (pv 0) (ae (pv 2) ag))) ag))))))),?_⟩;refine aQ (σ:=[some (.ref p),some (.ref q),some (.ref l)]) rfl ?_;have lu:=pl.length;walk_at "w";unfold Mp;exists ⟨l,us,rfl,bL.of gl,?_⟩;refine GK (K:=K) (a:=l) (xs:=us) (λi zs H'=>aH H H'/\Paired (dA K H H') ((Rs.reverse.map λrows=>uS ws (rows.map λr=>bI r x)).take i) zs) (bf (bK (by lia))) ⟨aH.refl _,.nil⟩ (λi zs H' _ ⟨s,_⟩=>bL.of (s _ _ gl)) ?_ ?_
  ·rintro i v zs H' hi hv hlen ⟨s,hP⟩;obtain ⟨R,eR,u,rfl,_,Gu⟩:=ck pl hv;obtain ⟨h1,h2⟩:=hR R (ar eR);exists ⟨u,p,_,R,x,rfl,Gu.same s,Rp.same s,by lia,by lia,λxs hx=>⟨(h2 xs hx).1,(h2 xs hx).2.1,rx⟩,λr1 H1 n1 s1 R1=>?_⟩;have s01:=s.trans s1;exists ⟨q,r1,ws,_,rfl,Rq.same s01,R1,by rw[ak];exact h1.symm,by rw[ak];lia,hw,λy hy=>?_,λr2 H2 n2 s2 R2=>?_⟩
   ·obtain ⟨xs,hx,rfl⟩:=ay.mp hy;exact (h2 xs hx).2.2
   refine ⟨s01.trans s2,?_⟩
   have ez:(Rs.reverse.map λrows=>uS ws (rows.map λr=>bI r x))[i]?=some (uS ws (R.map λr=>bI r x)):=by
    rw[aB,List.getElem?_reverse (by lia),show Rs.length - 1 - i=us.length - 1 - i by lia,eR];rfl
   rw[take_snoc ez];exact b9 (Paired.imp' (λ_ _ z=>dA.same z (s1.trans s2)) hP) (.cons ⟨r2,rfl,s01.none n2,R2⟩ .nil)
  ·rintro zs H' hy ⟨s,hP⟩ r hr;rw[aD (by rw[ak,List.length_reverse];lia)] at hP;exact k r _ (s.none hr) (s.trans (aH.new hr)) ⟨zs,aJ,Paired.imp' (λ_ _ z=>dA.same z (aH.new hr)) hP,kW ⟨_,hr,hP⟩⟩
theorem mV:a9 ["system","weights","start","goal","steps","lists","due","answer","price"] ["system","weights","start","goal","steps"] (aI zi):=by walk_at "d"
theorem FU (T:Txt K mg Z):cE P w K mg base fA 8 Z.D3 Z.DP ["system","weights","start","goal","steps"] (xW K Z.a_System):=by
 refine T.we.F.ok mV (λvs H Q E h=>?_) (λcdv A outer s H vs Q E hr h=>?_)
 ·obtain ⟨x,q,s,g,tt,N,X,H0,mv,pt,lk,ws,st,go,rfl,_⟩:=h;rfl
 ·obtain ⟨x,q,s,g,tt,N,X,H0,mv,pt,lk,ws,st,go,rfl,S,D,SF,Rq,Rs,ls,Rg,lg,cf,sg,F,k⟩:=h
  refine ⟨_,(ao (aU (i:=5) mV.nd rfl (Or.inl rfl) (cv (zq T) hr T.l9 (ae (pv 0) (ae (pv 4) ag))))
   (ao (aU (i:=6) mV.nd rfl (Or.inl rfl) (cv (Cb T) hr T.pO (ae (pv 0) (ae (pv 2) (ae (pv 3) (ae (pv 4) ag))))))
   (ao (aU (i:=7) mV.nd rfl (Or.inl rfl) (cv (FR T) hr T.wa (ae (cv (EB T) hr T.r8 (ae (pv 1) (ae (pv 5) (ae (jt (pv 0) rfl) ag)))) (ae (jt (pv 0) rfl) (ae (pv 6) ag)))))
   (ao (c5 (bu eH (aS bC (pv 7) aj) vR (bG _)) (aw (a8 (cv (Jb T) hr T.zA (ae (pv 0) (ae (pv 2) (ae (pv 3) (ae (pv 4) ag))))))) bT)
   (ao (aU (i:=8) mV.nd rfl (Or.inl rfl) (aS bC (pv 7) aj))
   (aw (a8 (cL (ae vR (ae (cv (qe T) hr T.gU (ae (pv 8) (ae (pv 6) ag))) (ae (cv (Ca T) hr T.pN (ae (pv 8) (ae (pv 1) (ae (pv 5) ag)))) (ae (pv 8) ag)))))))))))),?_⟩
  refine aQ (σ:=[some (.ref x),some (.ref q),some (.ref s),some (.ref g),some (.int tt),none,none,none,none]) rfl ?_;have d8:=D.n8;have i4:=D.i4;have t40:=F.t40;obtain ⟨dx,a',b',c',gx,_⟩:=id S;have kl:=qA (mv:=mv) (pt:=pt) tt;have kl2:tt*pt.length<=20*4:=aF t40 i4;have wk:=nN (mv:=mv) (pt:=pt) rfl D.pw tt;have lL:=AS (T:=tt) ls lg;have la:(Bt mv pt tt).length=tt:=by unfold Bt;rw[ak,cm]
  have lwt:(ve ws tt).length=(kry mv pt tt).length:=by rw[yQ,kl,F.lw]
  exists ⟨x,tt,H0,mv,pt,lk,rfl,by lia,S,D,F.ad,λr1 us H1 n1 s1 g1 p1=>?_⟩;exists ⟨x,s,g,tt,H0,mv,pt,lk,st,go,rfl,by lia,S.same s1,D,SF,Rs.same s1,ls,Rg.same s1,lg,cf,sg,λr2 H2 n2 s2 R2=>?_⟩;have s02:=s1.trans s2;have p2:=Paired.imp' (λ_ _ z=>By.same z s2) p1;exists ⟨x,Z.a_System,dx,_,_,rfl,s02 _ _ gx,T.cl_System,T.na_states,o8,?_⟩;exists ⟨q,r1,mv.length,us,_,ws,rfl,Rq.same s02,s2 _ _ g1,p2,by lia,by lia,by rw[jI];lia,by rw[jI,la];exact lwt,λxs h=>?_,F.wp,by rw[jI,la];exact F.rc,λr3 H9 H3 n3 s3 G3=>?_⟩
  ·rw[jI] at h;exact ⟨wk xs h,(F.rk xs h).2⟩
  rw[jI,la] at G3;have s03:=s02.trans s3;obtain ⟨w,sw⟩:=F.sw;exists ⟨x,Z.a_System,dx,_,_,rfl,s03 _ _ gx,T.cl_System,T.na_states,o8,?_⟩;exists ⟨r3,r2,mv.length,w,_,_,_,rfl,G3,R2.same s3,by rw[oA,lL],by rw[oA];lia,by lia,qr,sw,λR ps RR=>(F.ok R ps RR).1,λt4 x4 R ps H4 RR g4 n4 s4 R4=>?_⟩;obtain ⟨hn,tp⟩:=F.ok R ps RR;have sl:=Ko wk lwt lL RR hn;have lx:(j5 R ps mv.length).length=mv.length:=jM;generalize j5 R ps mv.length=pr at R4 tp sl lx;have s04:=s03.trans s4;have s24:=s3.trans s4;have rx:Bu pr:=vL F.n0 (ai F.nb (au (by decide) (by decide))) (ai F.xb (au (by decide) (by decide))) tp;walk_at "w";rw[decide_eq_false (show ¬(Str.ofString "yes"=Str.ofString "no") by decide)];exists ⟨x4,r2,pr,_,rfl,R4,R2.same s24,by rw[lL,lx],by lia,⟨rx,F.rd⟩,λe5 H5 s5 N5=>?_⟩;have s05:=s04.trans s5;have s25:=s24.trans s5;exists ⟨x4,q,r1,us,_,ws,pr,rfl,R4.same s5,Rq.same s05,(s2.trans s25) _ _ g1,Paired.imp' (λ_ _ z=>By.same z s25) p2,by lia,by rw[F.lw];lia,by lia,rx,F.wp,λR' hR=>?_,λp6 H6 n6 s6 G6=>?_⟩
  ·have:∀xs∈R',xs∈kry mv pt tt:=λxs hx=>by rw[<- jI];exact dQ.mpr ⟨R',hR,hx⟩
   refine ⟨?_,λxs hx=>⟨by rw[wk xs (this xs hx),lx],(F.rk xs (this xs hx)).1,F.pz xs (this xs hx) pr lx tp⟩⟩;unfold Bt at hR;obtain ⟨t,_,rfl⟩:=ay.mp hR;rw[ak,F.lw]
  have s06:=s05.trans s6;exists bW λt7 H7 s7 g7=>?_
  exact k t7 e5 p6 x4 pr H7 g7 (s05.none n6) (s03.none n4) (s06.trans s7) ((N5.same s6).same s7) ((G6.weak s05).same s7) ((R4.same (s5.trans s6)).same s7) sl tp
theorem kx:a9 ["_law_system_here","_law_weights_here","_law_goal","_law_steps_here","_law_rest","_law_found"] ["_law_system_here","_law_weights_here","_law_goal","_law_steps_here"] (aI lU):=by walk_at "d"
theorem oN (T:Txt K mg Z):cE P w K mg base fA 9 Z.rg Z.qN ["_law_system_here","_law_weights_here","_law_goal","_law_steps_here"] (Ao K Z.a_System):=by
 refine T.je.F.ok kx (λvs H Q E h=>?_) (λcdv A outer s H vs Q E hr h=>?_)
 ·obtain ⟨x,q,g,tt,N,X,H0,mv,pt,lk,ws,go,rfl,_⟩:=h;rfl
 ·obtain ⟨x,q,g,tt,N,X,H0,mv,pt,lk,ws,go,rfl,S,D,SF,Rq,Rg,lg,sg,F,k⟩:=h
  refine ⟨_,(ao (j9 4 ["_law_one"] [] [] kx.nd rfl rfl (cw (pv 2)) (λ_=>(aN (i:=0) (show ND9 ["_law_one"] by decide +kernel))) (λ_=>b8) (λ_=>(cL (ae aj (ae aj ag)))))
   (ao (aU (i:=5) kx.nd rfl (Or.inl rfl) (cv (FU T) hr T.we (ae (pv 0) (ae (pv 1) (ae (pv 4) (ae (pv 2) (ae (pv 3) ag)))))))
   (ao (c5 (bu yd (aS bC (pv 5) aj) vR (bG _)) (aw (a8 pG)) bT)
   (aw (a8 (pv 5)))))),?_⟩
  refine aQ (σ:=[some (.ref x),some (.ref q),some (.ref g),some (.int tt),none,none]) rfl ?_;have d8:=D.n8;obtain ⟨gs,gg,qg⟩:=id Rg;exists ⟨⟨_,bL.of gg⟩,?_⟩;refine dd (K:=K) (F:=λH' c v=>bQ K H' c v) (λH' (c:Rat) v=>bQ K H' c v) (λ_=>(0:Rat)) gg qg (by lia) (λa b=>a.same b) (λa b=>a.same b) ?_ ?_
  ·rintro j c' v Hi NY NN ej si nv k1;exists bW λt' Hj sj gj=>?_
   exact k1 _ _ sj (bQ.mk (q:=0) gj rfl)
  rintro ys H1 z hz s1 gz prz nxz;have Rz:cx K H1 z (List.replicate mv.length 0):=⟨ys,gz,by rw[mO,lg] at prz;exact prz⟩;exists ⟨x,q,z,g,tt,N,X,H0,mv,pt,lk,ws,_,go,rfl,S.same s1,D,SF,Rq.same s1,Rz,aL ..,Rg.same s1,lg,cf0 D,sg,by rw[F6 D.mw lg];exact F,λt e p y pr H2 g2 n2 n3 s2 N2 G2 R2 sl tp=>?_⟩;rw[F6 D.mw lg] at N2 sl;walk_at "w";rw[decide_eq_true rfl];exists k _ _ (s1.trans s2) ⟨t,e,p,y,pr,rfl,g2,N2,R2,sl,tp⟩
theorem xE (T:Txt K mg Z):cE P w K mg base fA 3 Z.pU Z.pR ["_law_one","_law_other"] (C6 K):=by
 refine T.jn.F.ok eX (λvs H Q E h=>?_) (λcdv A outer s H vs Q E hr h=>?_)
 ·obtain ⟨p,q,xs,ys,rfl,_⟩:=h;rfl
 ·obtain ⟨p,q,xs,ys,rfl,hp,hq,hl,hz,hD,kk⟩:=h
  refine ⟨_,(ao (aU (i:=2) eX.nd rfl (Or.inl rfl) (cL (ae aj (ae aj ag))))
   (ao (dU PassesOwn.never rfl (cg rfl T.range (ae (bO bD (by rfl) T.len bB (ae (pv 0) ag)) ag)) (aN (i:=3) eX.nd)
    (aw (aU (i:=2) eX.nd rfl (Or.inl rfl) (cv (dC T) hr T.c6 (ae (pv 2) (ae (cv (d7 T) hr T.dy (ae (aS bw (pv 0) (pv 3)) (ae (aS bw (pv 1) (pv 3)) ag))) ag))))))
   (aw (a8 (pv 2))))),?_⟩
  refine aQ (σ:=[some (.ref p),some (.ref q),none,none]) rfl ?_;obtain ⟨us,gu,qu⟩:=id hp;obtain ⟨ws,gw,qw⟩:=id hq;have lu:=qu.length;have lw:=qw.length;exists bW λr0 H0 s0 g0=>?_
  exists ⟨_,_,rfl,.inl (bL.of (s0 _ _ gu)),?_⟩;exists ⟨by lia,by lia,?_⟩;refine dW (n:=us.length) (λi σ' H'=>aH H H'/\∃(r:V) (v:Option V),σ'=[some (.ref p),some (.ref q),some r,v]/\bQ K H' (bI (xs.take i) (ys.take i)) r) ⟨s0,_,none,rfl,bQ.mk g0 rfl⟩ ?_ ?_
  ·rintro i σ' H' hi ⟨s,r,v,rfl,hr⟩;have ix:i < xs.length:=by lia
   have iy:i < ys.length:=by lia
   obtain ⟨vx,ex,nx⟩:=Dz (Paired.imp' (λ_ _ z=>z.same s) qu) ix;obtain ⟨vy,ey,ny⟩:=Dz (Paired.imp' (λ_ _ z=>z.same s) qw) iy;exists cA (bL.of (s _ _ gu)) ex ?_;exists cA (bL.of (s _ _ gw)) ey ?_;exists ⟨_,_,_,_,rfl,nx,ny,hD.x (getD_mem ix),hD.y (getD_mem iy),λr3 H3 s3 n3=>?_⟩;exists ⟨_,_,_,_,rfl,hr.same s3,n3,hD.sum hl hz i,hD.mul (getD_mem ix) (getD_mem iy),λr4 H4 s4 n4=>?_⟩;exists ⟨(s.trans s3).trans s4,_,_,rfl,by rw[sX ix iy];exact n4⟩
  ·rintro σ' H' ⟨s,r,v,rfl,hr⟩;rw[aD (by lia),aD (by lia)] at hr;obtain ⟨t,rfl,ht⟩:=hr;exists kk _ H' s ⟨t,rfl,ht⟩
theorem fL:a9 ["_law_script","_law_bag_here","_law_parts_here","_law_wide","_law_system_here","_law_weights_here","_law_steps_here","_law_rest","_law_one","_law_other","_law_factor","_law_goals","_law_told","_law_both","_law_amid","_law_due","_law_later"] ["_law_script"] (aI Fy):=by walk_at "d"
theorem KZ (T:Txt K mg Z):cE P w K mg base fA 10 Z.J0 Z.JZ ["_law_script"] (vq K):=by
 refine T.J6.ok fL (λvs H Q E h=>?_) (λcdv A outer s H vs Q E hr h=>?_)
 ·obtain ⟨a,ns,rfl,_⟩:=h;rfl
 ·obtain ⟨a,ns,rfl,hS,hlen,k⟩:=h
  refine ⟨_,(ao (aU (i:=1) fL.nd rfl (Or.inl rfl) (cv (AJ T) hr T.nM (ae (pv 0) ag)))
   (ao (eQ (cv (v7 T) hr T.jV (ae (pv 1) ag)) (rY rfl (cB (aN (i:=2) fL.nd) (cB (aN (i:=3) fL.nd) gK))))
   (ao (aU (i:=4) fL.nd rfl (Or.inr rfl) (cv (zw T) hr T.me (ae (pv 2) ag)))
   (ao (aU (i:=5) fL.nd rfl (Or.inr rfl) (cv (uL T) hr T.ju (ae (pv 1) (ae (bO bD (by rfl) T.len bB (ae (aS bC (pv 2) aj) ag)) (ae aj ag)))))
   (ao (aU (i:=6) fL.nd rfl (Or.inr rfl) (bp dG aj (bp jQ (cv (xA T) hr T.kM (ae (pv 1) (ae (pv 2) ag))) (bp dG aj (bO bD (by rfl) T.len bB (ae (aS bC (pv 2) aj) ag))))))
   (ao (j9 7 ["_law_row_here"] [] [] fL.nd rfl rfl (cw (aS bC (pv 2) aj)) (λ_=>(aN (i:=0) (show ND9 ["_law_row_here"] by decide +kernel))) (λ_=>b8) (λ_=>(cL (ae aj (ae aj ag)))))
   (ao (aU (i:=8) fL.nd rfl (Or.inl rfl) (cv (tP T) hr T.kd (ae (pv 2) (ae (pv 7) (ae (cv (qo T) hr T.jF (ae (pv 1) (ae (pv 2) (ae (pv 6) (ae (pv 3) ag))))) ag)))))
   (ao (aU (i:=9) fL.nd rfl (Or.inl rfl) (cv (tP T) hr T.kd (ae (pv 2) (ae (pv 7) (ae (cv (qo T) hr T.jF (ae (pv 1) (ae (pv 2) (ae (pv 6) (ae (pv 3) ag))))) ag)))))
   (ao (aU (i:=10) fL.nd rfl (Or.inl rfl) (cv (nL T) hr T.iF (ae (pv 1) (ae aj ag))))
   (ao (aU (i:=11) fL.nd rfl (Or.inl rfl) (dB (ae (pv 8) (ae (pv 9) (ae (cv (jD T) hr T.fU (ae (pv 8) (ae (pv 9) ag))) (ae (cv (xD T) hr T.kQ (ae (pv 8) (ae (pv 9) ag))) (ae (cv (jD T) hr T.fU (ae (pv 8) (ae (cv (pK T) hr T.jW (ae (pv 10) (ae (pv 9) ag))) ag))) (ae (pv 7) ag))))))))
   (ao (j9 12 ["_law_goal"] ["_law_system_here","_law_weights_here","_law_steps_here"] [4,5,6] fL.nd rfl rfl (cw (pv 11)) (λ_=>(aN (i:=0) (show ND9 ["_law_goal","_law_system_here","_law_weights_here","_law_steps_here"] by decide +kernel))) (λ_=>b8) (λ_=>(cv (oN T) hr T.je (ae (pv 1) (ae (pv 2) (ae (pv 0) (ae (pv 3) ag)))))))
   (ao (c5 (PW.pt (tH (bu (Ja (Jg hr)) pG (pv 12) (by with_unfolding_all rfl)) (nI (bu (BY (Jg hr)) (aS bC (aS bw (pv 12) aj) aj) (cL (ae aj (ae aj ag))) (bG _))))) (aw (a8 yb)) bT)
   (ao (aU (i:=13) fL.nd rfl (Or.inl rfl) (cv (dC T) hr T.c6 (ae (aS bC (aS bw (pv 12) aj) aj) (ae (aS bC (aS bw (pv 12) aj) aj) ag))))
   (ao (c5 (bu (BY (Jg hr)) (cv (dC T) hr T.c6 (ae (aS bC (aS bw (pv 12) aj) aj) (ae (aS bC (aS bw (pv 12) aj) aj) ag))) (cv (dC T) hr T.c6 (ae (pv 13) (ae (pv 13) ag))) (bG _)) (aw (a8 yb)) bT)
   (ao (aU (i:=14) fL.nd rfl (Or.inl rfl) (cv (d7 T) hr T.dy (ae (pv 10) (ae (cv (xE T) hr T.jn (ae (aS bC (aS bw (pv 12) aj) aj) (ae (pv 9) ag))) ag))))
   (ao (aU (i:=15) fL.nd rfl (Or.inl rfl) (cv (dC T) hr T.c6 (ae (cv (dC T) hr T.c6 (ae (aS bC (aS bw (pv 12) aj) aj) (ae (cv (dC T) hr T.c6 (ae (pv 14) (ae (pv 14) ag))) ag))) (ae (cv (d7 T) hr T.dy (ae (cv (d7 T) hr T.dy (ae (pv 10) (ae (pv 10) ag))) (ae (aS bC (aS bw (pv 12) aj) aj) ag))) ag))))
   (ao (c5 (bu (BY (Jg hr)) (aS bC (aS bw (pv 12) aj) aj) (pv 15) (bG _)) (aw (a8 yb)) bT)
   (ao (aU (i:=16) fL.nd rfl (Or.inl rfl) (cv (oN T) hr T.je (ae (pv 4) (ae (pv 5) (ae (pv 8) (ae (bp dG (pv 6) aj) ag))))))
   (aw (a8 (BX (jC zl (pv 16) pG (bG _)) (BW (jC vV (aS bC (cv (qq T) hr T.jG (ae (aS bC (aS bw (pv 12) aj) aj) (ae (aS bC (pv 16) aj) ag))) aj) aj (bG _)))))))))))))))))))))))),?_⟩
  refine aQ (σ:=[some (.ref a),none,none,none,none,none,none,none,none,none,none,none,none,none,none,none,none]) rfl ?_;exists ⟨a,ns,rfl,hS,hlen,λb H0 hb0 B0 s0=>?_⟩;exists ⟨b,rfl,B0,λt r w a' c' mv pt lk H1 g1 P1 D F KF RG w1 w2 B1 u1=>?_⟩;have d8:=D.n8;have d4:=D.i4;exists ⟨r,H0,mv,pt,lk,rfl,P1,D,F.sf,λx H2 nx s2 S2=>?_⟩;replace S2:jZ K H0 H2 Z.a_System x mv pt lk:=S2.weakN λq h=>u1.none B1 h
  replace P1:=P1.same s2;have B2:=B1.same s2;obtain ⟨m,p,l,gt,mn,pn,ln,Gm,Gp,Gl⟩:=id P1;obtain ⟨up,gp,qp,_⟩:=id Gp;have lup:=qp.length;exists ⟨_,_,rfl,.inl (bL.of gp),?_⟩;rw[<- lup];clear gp qp lup Gm Gp Gl;exists ⟨b,pt.length,rfl,B2,by lia,λwq ws H3 nw Rw lw hw B3 u3=>?_⟩;have wb:wq≠b:=λz=>B2.at (by rw[<- z];exact nw)
  replace P1:=P1.upto u3 B2 B0.at;replace S2:=S2.upto u3 B2 B0.at
  have szE:∀xs∈mv++pt,∀x∈xs,gL x:=λxs hx y hy=>by
   obtain ⟨M,V,h0,h1,h2,f1,f2,_⟩:=F;refine Jk h0 (ai h1 (au (by decide) (by decide))) (ai h2 (au (by decide) (by decide))) ?_;rcases az.mp hx with hx | hx
   ·exact f1 xs hx y hy
   ·exact f2 xs hx y hy
  exists ⟨b,r,H0,mv,pt,lk,rfl,B3,B0.at,P1,D,szE,λt0 H4 hT B4 u4=>?_⟩;clear szE;replace P1:=P1.upto u4 B3 B0.at;replace S2:=S2.upto u4 B3 B0.at;replace Rw:=Rw.upto u4 B3 wb;obtain ⟨m,p,l,gt,mn,pn,ln,Gm,Gp,Gl⟩:=id P1;obtain ⟨um,gm,qm,_⟩:=id Gm;have lum:=qm.length;exists ⟨_,_,rfl,.inl (bL.of gm),?_⟩;rw[<- lum];exists eC (show (0:Int) < 1+(mv.length:Int) by lia) ?_;walk_at "w"
  obtain ⟨tt,et,tn,t1⟩:∃tt:Nat,(1:Int)+(t0:Int) % (1+(mv.length:Int))=(tt:Int)/\tt<=mv.length+1/\1<=tt:=by
   have h1:=ic (t0:Int) (show (1+(mv.length:Int))≠0 by lia);have h2:=ff (t0:Int) (show (0:Int) < 1+(mv.length:Int) by lia);exact ⟨(1+(t0:Int) % (1+(mv.length:Int))).toNat,by lia,by lia,by lia⟩
  rw[et];clear et;refine ⟨⟨_,bL.of gm⟩,?_⟩;refine dd (K:=K) (F:=λ_ (_:List Rat) _=>True) (λH' (c:Rat) v=>bQ K H' c v) (λ_=>(0:Rat)) gm (Paired.imp' (λ_ _ _=>trivial) qm) (by lia) (λa b=>a) (λa b=>a.same b) ?_ ?_
  ·rintro j c v Hi NY NN ej si nv k1;exists bW λt' Hj sj gj=>?_
   exact k1 _ _ sj (bQ.mk (q:=0) gj rfl)
  rintro ys H5 re hre s5 gre pre nxre;have Rr:cx K H5 re (List.replicate mv.length 0):=⟨ys,gre,by rw[mO] at pre;exact pre⟩;clear gm qm lum Gm Gp Gl pre nxre gre;have rb:re≠b:=λz=>B4.at (by rw[<- z];exact hre)
  have B5:=B4.same s5;replace P1:=P1.same s5;replace S2:=S2.same s5;replace Rw:=Rw.same s5;exists ⟨b,r,tt,w,H0,mv,pt,lk,rfl,by lia,w1,w2,B5,B0.at,P1,D,λpa ua H6 npa Ga la' da' B6 u6=>?_⟩;have DA:ME pt tt w ua:=⟨la',da'⟩;obtain ⟨M1,M2,Vx,a1,a2,cc,n0,T0,bb,U⟩:=Kd RG D tn;replace P1:=P1.upto u6 B5 B0.at;replace S2:=S2.upto u6 B5 B0.at;replace Rw:=Rw.upto u6 B5 wb;replace Rr:=Rr.upto u6 B5 rb;have l0:(List.replicate mv.length (0:Rat)).length=mv.length:=aL ..;have wA:∀xs∈ua,xs.length=pt.length:=λxs hx=>(da' xs hx).1
  exists ⟨r,re,pa,H0,_,mv,pt,lk,ua,_,rfl,P1,D,Rr,l0,Ga,by lia,wA,(U.ends D DA DA).choose_spec.2.2.1.1,λon H7 non s7 R1=>?_⟩;rw[la'] at R1;have ob:on≠b:=λz=>B6.at (by rw[<- z];exact non)
  have B7:=B6.same s7;replace P1:=P1.same s7;replace S2:=S2.same s7;replace Rw:=Rw.same s7;replace Rr:=Rr.same s7;exists ⟨b,r,tt,w,H0,mv,pt,lk,rfl,by lia,w1,w2,B7,B0.at,P1,D,λpb ub H8 npb Gb lb' db' B8 u8=>?_⟩;have DB:ME pt tt w ub:=⟨lb',db'⟩;have wB:∀xs∈ub,xs.length=pt.length:=λxs hx=>(db' xs hx).1
  obtain ⟨E,E0,Eb,⟨_,fo⟩,EnB,fp⟩:=U.ends D DA DB;replace P1:=P1.upto u8 B7 B0.at;replace S2:=S2.upto u8 B7 B0.at;replace Rw:=Rw.upto u8 B7 wb;replace Rr:=Rr.upto u8 B7 rb;replace R1:=R1.upto u8 B7 ob;exists ⟨r,re,pb,H0,_,mv,pt,lk,ub,_,rfl,P1,D,Rr,l0,Gb,by lia,wB,EnB,λot H9 notn s9 R2=>?_⟩;rw[lb'] at R2;have tb:ot≠b:=λz=>B8.at (by rw[<- z];exact notn)
  have B9:=B8.same s9;replace P1:=P1.same s9;replace S2:=S2.same s9;replace Rw:=Rw.same s9;replace Rr:=Rr.same s9;replace R1:=R1.same s9;have Go1:oh mv pt tt E (cc*T0+22) (oG mv pt (List.replicate mv.length 0) ua tt):=⟨j6 l0 (by lia),fo,Dg D la' wA⟩;have Go2:oh mv pt tt E (cc*T0+22) (oG mv pt (List.replicate mv.length 0) ub tt):=⟨j6 l0 (by lia),fp,Dg D lb' wB⟩;generalize oG mv pt (List.replicate mv.length 0) ua tt=one at R1 Go1;generalize oG mv pt (List.replicate mv.length 0) ub tt=oth at R2 Go2;clear fo fp EnB Ga Gb DA DB RG hT P1;exists ⟨b,9,rfl,B9,by decide,by decide,λfa f HA df Nf BA uA=>?_⟩;have df:Dr 9 f:=df;replace S2:=S2.upto uA B9 B0.at;replace Rw:=Rw.upto uA B9 wb;replace Rr:=Rr.upto uA B9 rb;replace R1:=R1.upto uA B9 ob;replace R2:=R2.upto uA B9 tb;clear B2 B3 B4 B5 B6 B7 B8 B9 BA u1 u3 u4 u6 u8 uA;obtain ⟨q,q0,qb,hq⟩:=F4 U.bd D U.z U.hn (u:=tt) (by have:=U.ht;lia) lw hw (E:=E*2520) (by lia) Eb;obtain ⟨q',q0',qb',hq'⟩:=F4 U.bd D U.z U.hn (u:=tt+1) (by have:=U.ht;lia) lw hw (E:=E*2520) (by lia) Eb;obtain ⟨_,_,_,_,_,_,z5,z6,_,_,_⟩:=U.z;have hE2:E<=2^BF a1 a2 T0 bb:=by lia
  have zk:cc*T0+22+4+BF a1 a2 T0 bb<=3900:=by unfold CL at z6;lia
  have so:=Go1.szn E0 hE2 (by lia);have sp:=Go2.szn E0 hE2 (by lia);have lo1:=Go1.len;have lo2:=Go2.len;exists ⟨on,ot,one,oth,rfl,R1,R2,by lia,by lia,so,sp,λp1 HB nB sB RB=>?_⟩;exists ⟨on,ot,one,oth,rfl,R1.same sB,R2.same sB,by lia,by lia,so,sp,λp2' HC nC sC RC=>?_⟩;have sBC:=sB.trans sC;exists ⟨_,ot,f,oth,rfl,Nf.same sBC,(s65 (N:=1) (a:=0) (by decide) (cn) (by decide) Tp.zero Tp.zero Tp.zero Tp.zero Tp.zero df).2.2.2.1,R2.same sBC,by lia,sp,λp3 HD nD sD RD=>?_⟩;have sBD:=sBC.trans sD;exists ⟨on,p3,one,_,rfl,R1.same sBD,RD,by rw[ak];lia,by lia,so,Go2.szf df E0 Eb zk,λp4 HE nE sE RE=>?_⟩;have sBE:=sBD.trans sE;exists c9 λgl HF sF nF gF=>?_
  have sBF:=sBE.trans sF;have e1:List.zipWith (λx y=>x+y) one oth=List.zipWith (λu v=>u+v) one (oth.map λv=>1*v):=Ka;have e2:List.zipWith (λx y=>x - y) one oth=List.zipWith (λu v=>u+v) one (oth.map λv=>-1*v):=Fc;have pg:Paired (dA K (λ_=>none) HF) [one,oth,List.zipWith (λx y=>x+y) one oth,List.zipWith (λx y=>x - y) one oth,List.zipWith (λx y=>x+y) one (oth.map λy=>f*y),List.replicate mv.length 0] [V.ref on,V.ref ot,V.ref p1,V.ref p2',V.ref p4,V.ref re]:=.cons ⟨_,rfl,rfl,R1.same sBF⟩ (.cons ⟨_,rfl,rfl,R2.same sBF⟩ (.cons ⟨_,rfl,rfl,RB.same (((sC.trans sD).trans sE).trans sF)⟩ (.cons ⟨_,rfl,rfl,RC.same ((sD.trans sE).trans sF)⟩ (.cons ⟨_,rfl,rfl,RE.same sF⟩ (.cons ⟨_,rfl,rfl,Rr.same sBF⟩ .nil)))))
  have al:∀g∈[one,oth,List.zipWith (λx y=>x+y) one oth,List.zipWith (λx y=>x - y) one oth,List.zipWith (λx y=>x+y) one (oth.map λy=>f*y),List.replicate mv.length 0],oh mv pt tt (E*2520) (cc*T0+22+4) g:=λg hg=>by
   simp only[aA,aP,or_false] at hg;rcases hg with rfl | rfl | rfl | rfl | rfl | rfl
   ·exact Go1.up
   ·exact Go2.up
   ·rw[e1];exact Go1.comb Go2 ⟨by decide,by decide⟩
   ·rw[e2];exact Go1.comb Go2 ⟨by decide,by decide⟩
   ·exact Go1.comb Go2 df
   ·exact Jh
  clear RB RC RD RE;exists ⟨⟨_,bL.of gF⟩,?_⟩;refine dd (K:=K) (F:=dA K λ_=>none) (GW K mv pt ws tt (E*2520*q) (2^HV n0 a1 a2 cc T0 bb)) id gF pg (show 6<=1000 by decide) (λa b=>a.same b) (λa b=>a.same b) ?_ ?_
  ·rintro j c v Hi NY NN ej si ⟨u,rfl,_,Ru⟩ k1;have G:=al c (ar ej);have sBi:=sBF.trans si;exists ⟨x,wq,u,tt,_,_,H0,mv,pt,lk,ws,c,rfl,S2.same sBi,D,F,Rw.same sBi,Ru,G.len,G.szn (by lia) Eb zk,hq c G.len G.fr G.rch,λv' H' s' L=>k1 v' H' s' L⟩
  rintro ysC HG told nG sG gG prG _;rw[j3] at prG;obtain ⟨v0,v1,v2,v3,v4,v5,rfl,L0,L1,L2,L3,L4,L5⟩:=IY prG
  have tw:∀g,oh mv pt tt (E*2520) (cc*T0+22+4) g->∀z∈g,Tp (E*2520) (2^CL a1 a2 cc T0 bb) z:=λg hg z hz=>Tp.of (hg.fr z hz) (by
   rw[show CL a1 a2 cc T0 bb=cc*T0+22+4+BF a1 a2 T0 bb from rfl,aE 2 (cc*T0+22+4)];exact aM _ Eb)
  have tp:∀g,oh mv pt tt (E*2520) (cc*T0+22+4) g->∀(N:Nat) (y:List Rat),y.length=mv.length->(∀z∈y,Tp N (2^HV n0 a1 a2 cc T0 bb) z)->Tp (N*(E*2520)) (2^(3+HV n0 a1 a2 cc T0 bb+CL a1 a2 cc T0 bb)) (bI y g):=λg hg N y ly hy=>Gy ly hg.len d8 hy (tw g hg)
  have G2:=al _ (ba _ (ba _ (cu ..)));have G3:=al _ (ba _ (ba _ (ba _ (cu ..))));clear prG al pg;obtain ⟨t0,e0,_,y0,x0,rfl,g0,N0,R0,S0,T0'⟩:=L0;obtain ⟨t1,e1',_,y1,x1,rfl,g1',N1,R1',S1,T1⟩:=L1;obtain ⟨t2,e2',_,y2,x2,rfl,g2,N2,R2',S2',T2⟩:=L2;obtain ⟨t3,e3,_,y3,x3,rfl,g3,N3,R3,S3,T3⟩:=L3;obtain ⟨t4,e4,_,y4,x4,rfl,g4,N4,R4,S4,T4⟩:=L4;obtain ⟨t5,e5,_,y5,x5,rfl,g5,N5,R5,S5,T5⟩:=L5;have sBG:=sBF.trans sG;have z5':bI x5 (List.replicate mv.length 0)=0:=wL _ _;rw[z5'] at N5;walk_at "w";have hz1:0 < E*2520:=by lia
  have nb:∀q,q<=2^zQ n0 a1 a2 cc T0->E*2520*q*(E*2520)<=2^3900:=λq h=>ai (aF (aF Eb h) Eb) (by rw[<- aE,<- aE];exact p2 (by lia))
  obtain ⟨⟨sz0,sz1,sz2,sz3⟩,sz01,szd,szf,szfd,szfd2,sze,szff,szffe⟩:=s65 (f:=f) (bN (bN hz1 q0) hz1) (nb q qb) z6 (tp _ Go1.up _ x0 S0.1 T0') (tp _ Go2.up _ x1 S1.1 T1) (tp _ G2 _ x2 S2'.1 T2) (tp _ G3 _ x3 S3.1 T3) (tp _ Go2.up _ x0 S0.1 T0') df;have q2:=zH (c:=1) S0 S1 S2' λy _=>by rw[e1];exact nU (by rw[lo1,lo2])
  have q3:=zH (c:=-1) S0 S1 S3 λy _=>by rw[e2];exact nU (by rw[lo1,lo2])
  have q4:=zH (c:=f) S0 S1 S4 λy _=>nU (by rw[lo1,lo2])
  have dt:DT x0 oth:=DT.pow (bN hz1 q0) hz1 (ai (aF Eb qb) (Nat.le_of_eq (aE ..).symm)) Eb T0' (tw _ Go2.up) (by lia) (by lia);refine ⟨told,_,rfl,rfl,bL.of gG,λv hv=>?_,?_⟩
  ·simp only[aA,aP,or_false] at hv;rcases hv with rfl | rfl | rfl | rfl | rfl | rfl
   ·exact ⟨_,_,rfl,mB.of g0⟩
   ·exact ⟨_,_,rfl,mB.of g1'⟩
   ·exact ⟨_,_,rfl,mB.of g2⟩
   ·exact ⟨_,_,rfl,mB.of g3⟩
   ·exact ⟨_,_,rfl,mB.of g4⟩
   ·exact ⟨_,_,rfl,mB.of g5⟩
  exists bW λt7 HH sH gH=>?_
  exists ⟨_,_,F7,0,0,by decide,N5.same sH,bQ.mk (q:=0) gH rfl,?_⟩;rw[decide_eq_true rfl];have gGH:=sH _ _ gG;have g0H:=sH _ _ g0;have g1H:=sH _ _ g1';exists ⟨_,_,_,_,rfl,N0.same sH,N1.same sH,sz0,sz1,λrb' HI sI NI=>?_⟩;have sGI:=sH.trans sI;have gGI:=sGI _ _ gG;have g2I:=sGI _ _ g2;have g3I:=sGI _ _ g3;exists ⟨_,_,_,_,rfl,N2.same sGI,N3.same sGI,sz2,sz3,λrs HJ sJ NJ=>?_⟩;exists ⟨_,_,_,_,rfl,NI.same sJ,NI.same sJ,sz01,sz01,λrt HK sK NK=>?_⟩;exists ⟨_,_,F7,_,_,by decide,NJ.same sK,NK,?_⟩;rw[decide_eq_true (by rw[q2,q3];grind)];have sGK:=(sGI.trans sJ).trans sK;have gGK:=sGK _ _ gG;have g0K:=sGK _ _ g0;exists ⟨y0,ot,x0,oth,rfl,R0.same sGK,R2.same (sBG.trans sGK),by rw[S0.1,lo2],by rw[S0.1];lia,dt,λrd HL sL NL=>?_⟩;have sGL:=sGK.trans sL;exists ⟨_,_,_,_,rfl,Nf.same (sBG.trans sGL),NL,szf,szd,λra HM sM NM=>?_⟩;have sGM:=sGL.trans sM;have gGM:=sGM _ _ gG;have g0M:=sGM _ _ g0;have g1M:=sGM _ _ g1';exists ⟨_,_,_,_,rfl,NM,NM,szfd,szfd,λr1 HN sN NN1=>?_⟩;exists ⟨_,_,_,_,rfl,N0.same (sGM.trans sN),NN1,sz0,szfd2,λr2 HO sO NO=>?_⟩;have sGO:=(sGM.trans sN).trans sO;exists ⟨_,_,_,_,rfl,Nf.same (sBG.trans sGO),Nf.same (sBG.trans sGO),szf,szf,λr3 HP sP NP=>?_⟩;have sGP:=sGO.trans sP;have gGP:=sGP _ _ gG;have g1P:=sGP _ _ g1';exists ⟨_,_,_,_,rfl,NP,N1.same sGP,szff,sz1,λr4 HQ sQ NQ=>?_⟩;exists ⟨_,_,_,_,rfl,NO.same (sP.trans sQ),NQ,sze,szffe,λr5 HR sR NR=>?_⟩;have sGR:=(sGP.trans sQ).trans sR;have gGR:=sGR _ _ gG;have g4R:=sGR _ _ g4;exists ⟨_,_,F7,_,_,by decide,N4.same sGR,NR,?_⟩;rw[decide_eq_true (by rw[q4])];walk_at "w";rw[show ((tt:Int)+1)=((tt+1:Nat):Int) by lia];have sBR:=sBG.trans sGR;refine ⟨x,wq,on,tt+1,_,_,H0,mv,pt,lk,ws,one,rfl,S2.same sBR,D,F,Rw.same sBR,R1.same sBR,lo1,so,hq' one lo1 Go1.up.fr Go1.up.rch.later,λv HS sS LS=>?_⟩;obtain ⟨t6,e6,_,y6,x6,rfl,g6,N6,R6,S6,T6⟩:=LS;have sGS:=sGR.trans sS;have gGS:=sGS _ _ gG;have g0S:=sGS _ _ g0;have sz6:gL (bI x6 one):=fg (tp _ Go1.up _ x6 S6.1 T6) (bN (bN hz1 q0') hz1) (ai (nb q' qb') (p2 (by decide))) (p2 (by lia));exists ⟨rfl,_,rfl,?_⟩;rw[show decide (V.ref t6=V.non)=false from decide_eq_false (λz=>nomatch z)];rw[if_pos (show (!false)=true from rfl)];exists ⟨_,_,_,_,rfl,N0.same sGS,N6,sz0,sz6,λr7 HT sT NT=>?_⟩;obtain ⟨_,er,gr⟩:=id NT;cases er
  have key:bI x6 one<=bI x0 one:=by
   have kw:=nN (mv:=mv) (pt:=pt) rfl D.pw tt;have kl:=qA (mv:=mv) (pt:=pt) tt;have e7:ve ws (tt+1)=ve ws tt++ws:=by unfold ve;rw[List.replicate_succ',oo];simp
   rw[AU,e7] at S6;exact EU (by rw[yQ,kl,lw]) (λw h=>(hw w (yP h)).1) (by rw[ak,lw]) (λw h=>(hw w h).1) S0 S6 kw
  have key2:0<=(nm (bI x0 one - bI x6 one)).1:=Rat.num_nonneg.mpr (by grind);walk_at "w";rw[decide_eq_true key2];exact k _
end
theorem ln1 {P:List Value->Prop} (h:∀x0,P [x0]):∀us:List Value,us.length=1->P us
 | [x0],_=>h x0
theorem ln2 {P:List Value->Prop} (h:∀x0 x1,P [x0,x1]):∀us:List Value,us.length=2->P us
 | [x0,x1],_=>h x0 x1
theorem ln3 {P:List Value->Prop} (h:∀x0 x1 x2,P [x0,x1,x2]):∀us:List Value,us.length=3->P us
 | [x0,x1,x2],_=>h x0 x1 x2
theorem ln4 {P:List Value->Prop} (h:∀x0 x1 x2 x3,P [x0,x1,x2,x3]):∀us:List Value,us.length=4->P us
 | [x0,x1,x2,x3],_=>h x0 x1 x2 x3
theorem ln5 {P:List Value->Prop} (h:∀x0 x1 x2 x3 x4,P [x0,x1,x2,x3,x4]):∀us:List Value,us.length=5->P us
 | [x0,x1,x2,x3,x4],_=>h x0 x1 x2 x3 x4
local macro_rules | `(tactic| walk_at "b") => `(tactic| (intro _ _ _ _ _ _; first | (refine ln1 ?_; intros; rfl) | (refine ln2 ?_; intros; rfl) | (refine ln3 ?_; intros; rfl) | (refine ln4 ?_; intros; rfl) | (refine ln5 ?_; intros; rfl)))
theorem all_mk {l:W.OpenLaw} {K:W.Frag} 
 
  (X:K.In h) (G:h.Ns mainGlobals mg) (hfa:mg "law"=some (.ref fa))
 (aC:W.nsIn K mainGlobals "System"=some (some (.ref C)))
  (h0:Dh K "_law_bag" pE f0 e0)
  (h1:Dh K "_law_take" m7 f1 e1)
  (h2:Dh K "_law_sizes" jA f2 e2)
  (h3:Dh K "_law_line" nA f3 e3)
  (h4:Dh K "_law_low" pA f4 e4)
  (h5:Dh K "_law_sum" ph f5 e5)
  (h6:Dh K "_law_plus" ng f6 e6)
  (h7:Dh K "_law_prod" m9 f7 e7)
  (h8:Dh K "_law_by" rQ f8 e8)
  (h9:Dh K "_law_mixed" lS f9 e9)
  (h10:Dh K "_law_two_lines" iS f10 e10)
  (h11:Dh K "_law_number" kD f11 e11)
  (h12:Dh K "_law_row" pk f12 e12)
  (h13:Dh K "_law_move" ni f13 e13)
  (h14:Dh K "_law_parts" lQ f14 e14)
  (h15:Dh K "_law_system" kC f15 e15)
  (h16:Dh K "want_list" mX f16 e16)
  (h17:Dh K "is_whole" pe f17 e17)
  (h18:Dh K "common_divisor" iR f18 e18)
  (h19:Dh K "is_number" m5 f19 e19)
  (h20:Dh K "is_row" vJ f20 e20)
  (h21:Dh K "copied_rows" kB f21 e21)
  (a22:W.findIn K (.ref C) "__init__"=some (some (.ref f22))) (i22:W.isFn K (.ref f22)=true) (l22:K.lookup f22=some ⟨oc22,od22,.func (W.fnOf "__init__" "System.__init__" (jH dF) (iI dF) (aI dF) .none kV22 dc22 pm22 an22 cd22 ct22),sl22⟩) (c22:W.codeIn K cd22 "System.__init__"=true) (k22:W.keepIn K (.ref f22)=true)
  (h23:Dh K "_law_copied" kE f23 e23)
  (h24:Dh K "_law_made" nk f24 e24)
  (h25:Dh K "_law_weights" jO f25 e25)
  (h26:Dh K "_law_steps" lP f26 e26)
  (h27:Dh K "_law_dot" pC f27 e27)
  (h28:Dh K "_law_on" rO f28 e28)
  (h29:Dh K "_law_next" nh f29 e29)
  (h30:Dh K "_law_end" pB f30 e30)
  (h31:Dh K "_law_puts" m8 f31 e31)
  (h32:Dh K "_law_less" nH f32 e32)
  (h33:Dh K "_law_minus" lT f33 e33)
  (h34:Dh K "common_multiple" iq f34 e34)
  (h35:Dh K "common_bottom" jr f35 e35)
  (h36:Dh K "tops_over" mY f36 e36)
  (h37:Dh K "lowest" vH f37 e37)
  (h38:Dh K "row_dot" rJ f38 e38)
  (h39:Dh K "grid_on" rM f39 e39)
  (h40:Dh K "moved_rows" lK f40 e40)
  (h41:Dh K "additions" m6 f41 e41)
  (h42:Dh K "minus" zh f42 e42)
  (h43:Dh K "row_minus" mZ f43 e43)
  (h44:Dh K "grid_turned" kz f44 e44)
  (a45:W.findIn K (.ref C) "moved"=some (some (.ref f45))) (i45:W.isFn K (.ref f45)=true) (l45:K.lookup f45=some ⟨oc45,od45,.func (W.fnOf "moved" "System.moved" (jH eP) (iI eP) (aI eP) .none kV45 dc45 pm45 an45 cd45 ct45),sl45⟩) (c45:W.codeIn K cd45 "System.moved"=true) (k45:W.keepIn K (.ref f45)=true)
  (h46:Dh K "course" vK f46 e46)
  (h47:Dh K "nought_row" lJ f47 e47)
  (h48:Dh K "nothing_for" ky f48 e48)
  (h49:Dh K "lacking" rL f49 e49)
  (h50:Dh K "first_with" lN f50 e50)
  (h51:Dh K "cleared" rN f51 e51)
  (h52:Dh K "brought_up" lO f52 e52)
  (h53:Dh K "swept" zf f53 e53)
  (h54:Dh K "solved" vF f54 e54)
  (h55:Dh K "solve" zg f55 e55)
  (h56:Dh K "flat" BP f56 e56)
  (h57:Dh K "grid_times" lM f57 e57)
  (h58:Dh K "parted" vG f58 e58)
  (h59:Dh K "parted_by" m4 f59 e59)
  (h60:Dh K "led_to" vI f60 e60)
  (h61:Dh K "come" BQ f61 e61)
  (h62:Dh K "puts_at" rK f62 e62)
  (h63:Dh K "least" zi f63 e63)
  (h64:Dh K "_law_least" lU f64 e64)
  (h65:Dh K "law" Fy f65 e65)
 (ca0:W.nsIn K mainGlobals "NOUGHT"=some (some (.ref m0))) (cl0:K.lookup m0=some ⟨.type "tuple",mo0,.seq #[.int 0 mt0_0,.int 1 mt0_1] mn0,ms0⟩)
 (ca1:W.nsIn K mainGlobals "ONE"=some (some (.ref m1))) (cl1:K.lookup m1=some ⟨.type "tuple",mo1,.seq #[.int 1 mt1_0,.int 1 mt1_1] mn1,ms1⟩)
 (ci0:W.nsIn K mainGlobals "MOST_STATES"=some (some (.int 8 it0)))
 (ci1:W.nsIn K mainGlobals "MOST_PUTS"=some (some (.int 4 it1)))
 (ci2:W.nsIn K mainGlobals "MOST_LOOKS"=some (some (.int 4 it2)))
  (pg:W.plainGet K C Str.empty=true) (hd:W.hasDictIn K C=true) (po:W.plainOver K C=true) (sa:W.findIn K (.ref C) "__setattr__"=some (some (.builtin "object.__setattr__"))) (mk:W.makesIn K C=true) (kc:W.keepIn K (.ref C)=true)
  (n_move:W.findIn K (.ref C) "move"=some none)
  (n_states:W.findIn K (.ref C) "states"=some none)
  (n_put:W.findIn K (.ref C) "put"=some none)
  (n_ins:W.findIn K (.ref C) "ins"=some none)
  (n_look:W.findIn K (.ref C) "look"=some none)
  (n_outs:W.findIn K (.ref C) "outs"=some none)
  (z_abs:W.nsIn K mainGlobals "abs"=some none)
  (z_len:W.nsIn K mainGlobals "len"=some none)
  (z_min:W.nsIn K mainGlobals "min"=some none)
  (z_int:W.nsIn K mainGlobals "int"=some none)
  (z_range:W.nsIn K mainGlobals "range"=some none)
  (z_isinstance:W.nsIn K mainGlobals "isinstance"=some none)
  (z_list:W.nsIn K mainGlobals "list"=some none)
  (z_bool:W.nsIn K mainGlobals "bool"=some none)
  (z_tuple:W.nsIn K mainGlobals "tuple"=some none)
  (z_all:W.nsIn K mainGlobals "all"=some none)
  (z_enumerate:W.nsIn K mainGlobals "enumerate"=some none)
  (z_max:W.nsIn K mainGlobals "max"=some none)
  (z_zip:W.nsIn K mainGlobals "zip"=some none)
  (z_sum:W.nsIn K mainGlobals "sum"=some none)
  (z_reversed:W.nsIn K mainGlobals "reversed"=some none)
  : ∃fd:FuncData,(∀(s:Shared) (v:Value),BindsTo s fd ⟨[v],[]⟩ [("_law_script",v)])/\∀base:Heap,K.In base->base.Ns mainGlobals mg->cE l.prog w K mg base fA 10 fa fd ["_law_script"] (vq K):=by
 have e:=hfa.symm.trans (W.mg_of X G h65.a);cases e;obtain ⟨_,_,_,_,_,_,_,_,_,rfl,_,_⟩:=h65.F.ex;have F22:=Ct (st:=dF) l22 c22 k22;have F45:=Ct (st:=eP) l45 c45 k45
 have T:Txt K mg ⟨f0,_,f1,_,f2,_,f3,_,f4,_,f5,_,f6,_,f7,_,f8,_,f9,_,f10,_,f11,_,f12,_,f13,_,f14,_,f15,_,f16,_,f17,_,f18,_,f19,_,f20,_,f21,_,f22,_,f23,_,f24,_,f25,_,f26,_,f27,_,f28,_,f29,_,f30,_,f31,_,f32,_,f33,_,f34,_,f35,_,f36,_,f37,_,f38,_,f39,_,f40,_,f41,_,f42,_,f43,_,f44,_,f45,_,f46,_,f47,_,f48,_,f49,_,f50,_,f51,_,f52,_,f53,_,f54,_,f55,_,f56,_,f57,_,f58,_,f59,_,f60,_,f61,_,f62,_,f63,_,f64,_,fa,_,m0,m1,it0,it1,it2,C⟩:={
  nM:=h0.D X G
  aO:=h1.D X G
  kN:=h2.D X G
  iG:=h3.D X G
  eY:=h4.D X G
  c6:=h5.D X G
  fU:=h6.D X G
  dy:=h7.D X G
  jW:=h8.D X G
  jd:=h9.D X G
  iE:=h10.D X G
  iF:=h11.D X G
  hX:=h12.D X G
  md:=h13.D X G
  kO:=h14.D X G
  jV:=h15.D X G
  iD:=h16.D X G
  kb:=h17.D X G
  d9:=h18.D X G
  l8:=h19.D X G
  sk:=h20.D X G
  fP:=h21.D X G
  kg:=F22.binds (ps:=["self","move","put","look"]) λ_ _ _ _ _ _=>by refine ln4 ?_;intros;rfl
  kj:=F22
  fQ:=h23.D X G
  me:=h24.D X G
  ju:=h25.D X G
  kM:=h26.D X G
  jn:=h27.D X G
  pQ:=h28.D X G
  ma:=h29.D X G
  kd:=h30.D X G
  jF:=h31.D X G
  jG:=h32.D X G
  kQ:=h33.D X G
  gV:=h34.D X G
  dm:=h35.D X G
  ft:=h36.D X G
  iZ:=h37.D X G
  gU:=h38.D X G
  i5:=h39.D X G
  kI:=h40.D X G
  l9:=h41.D X G
  wd:=h42.D X G
  l7:=h43.D X G
  eT:=h44.D X G
  mG:=⟨a45,i45,k45⟩
  nZ:=F45.binds (ps:=["self","state","puts"]) λ_ _ _ _ _ _=>by refine ln3 ?_;intros;rfl
  oi:=F45
  sv:=h46.D X G
  gB:=h47.D X G
  jU:=h48.D X G
  pO:=h49.D X G
  kK:=h50.D X G
  pP:=h51.D X G
  kL:=h52.D X G
  v9:=h53.D X G
  oy:=h54.D X G
  wa:=h55.D X G
  uT:=h56.D X G
  kJ:=h57.D X G
  rZ:=h58.D X G
  jE:=h59.D X G
  r8:=h60.D X G
  zA:=h61.D X G
  pN:=h62.D X G
  we:=h63.D X G
  je:=h64.D X G
  J6:=h65.F
  abs:=W.mg_none_of X G z_abs
  len:=W.mg_none_of X G z_len
  min:=W.mg_none_of X G z_min
  int:=W.mg_none_of X G z_int
  range:=W.mg_none_of X G z_range
  isinstance:=W.mg_none_of X G z_isinstance
  list:=W.mg_none_of X G z_list
  bool:=W.mg_none_of X G z_bool
  tuple:=W.mg_none_of X G z_tuple
  all:=W.mg_none_of X G z_all
  enumerate:=W.mg_none_of X G z_enumerate
  max:=W.mg_none_of X G z_max
  zip:=W.mg_none_of X G z_zip
  sum:=W.mg_none_of X G z_sum
  reversed:=W.mg_none_of X G z_reversed
  mg_NOUGHT:=W.mg_of X G ca0
  sq_NOUGHT:=λH=>.inr ⟨_,_,_,cl0,rfl,rfl,ij rfl,.cons ⟨_,rfl⟩ (.cons ⟨_,rfl⟩ (.nil))⟩
  mg_ONE:=W.mg_of X G ca1
  sq_ONE:=λH=>.inr ⟨_,_,_,cl1,rfl,rfl,ij rfl,.cons ⟨_,rfl⟩ (.cons ⟨_,rfl⟩ (.nil))⟩
  mg_MOST_STATES:=W.mg_of X G ci0
  mg_MOST_PUTS:=W.mg_of X G ci1
  mg_MOST_LOOKS:=W.mg_of X G ci2
  mg_System:=W.mg_of X G aC
  cl_System:=⟨pg,hd,po,sa⟩
  na_move:=n_move
  na_states:=n_states
  na_put:=n_put
  na_ins:=n_ins
  na_look:=n_look
  na_outs:=n_outs
  mk_System:=⟨mk,a22,i22,kc⟩ }
 exact ⟨_,λs v=>.of_eq rfl,λbase _ _=>KZ T⟩
theorem walk {l:W.OpenLaw} {K:Params->W.Frag} (hn:l.most=some 63) (hdf:d.params.defaults=[])
  (hY:∀(w:World) (h:Heap),YP w h->(K w.params).In h)
  (F:∀(w:World) (mg:Str->Option Value) (fa:Addr) (h:Heap),(K w.params).In h->h.Ns mainGlobals mg->mg d.name=some (.ref fa) →
   ∃fd:FuncData,(∀(s:Shared) (u:Value),BindsTo s fd ⟨[u],[]⟩ [("_law_script",u)])/\∀base:Heap,(K w.params).In base->base.Ns mainGlobals mg->cE l.prog w (K w.params) mg base fA 10 fa fd ["_law_script"] (vq (K w.params))) :
  W.WalkO q loose XP YP l.row.toRowW d [] (λf vs=>PySem.call f vs) :=
 L2.HW (n:=63) (k:=10) (x:="_law_script") (CX:=λ_=>fA) (sp:=λw=>vq (K w.params)) hn (by decide) hdf ⟨rfl,by decide,by decide⟩ hY F (λ_ _ a ns hl _ hS=>⟨a,ns,rfl,hS,hl,λ_=>rfl⟩) λ_ _ _ _ _ z=>z
end Lw
namespace PySem.W.Fast
def tw18018860527956180847:=()
def tw12264070736421856106:=()
def tw16449611313106494193:=()
def tw10556793207806782723:=()
def tw15635176937681354474:=()
def tw10861264609634001388:=()
def tw5423140577275968291:=()
def tw7722709557599708591:=()
def tw3916030824883158010:=()
def tw7256358458289829069:=()
def tw1190021778726532500:=()
def tw9782190044859300588:=()
def tw18215842056688047804:=()
def tw12646971974897934410:=()
def tw9310827307613179947:=()
def tw4737916027945306613:=()
def tw9791974851305850987:=()
def tw11697923164971521309:=()
def tw6868782281709205524:=()
def tw14193937487831028214:=()
def tw3884071000961395860:=()
def tw4622129185824343662:=()
def tw10860477091242236429:=()
def tw3023289212272738008:=()
def tw1563945414607897988:=()
def tw3062755687149730419:=()
def tw15018657700634286608:=()
def tw5940734821608143092:=()
def tw15020937766707910805:=()
def tw1310322020724912943:=()
def tw2925336431471110929:=()
def tw15100332200417825789:=()
def tw18343033905424169980:=()
def tw7896975985329481638:=()
def tw16312696156537390373:=()
def tw4728028820459777614:=()
def tw7259588133381773809:=()
def tw2139274916948575852:=()
def tw12870178532558424036:=()
def tw17892917387379135651:=()
def tw1419740529729317562:=()
def tw2298798819044788635:=()
def tw15424000176073519338:=()
def tw2174439174456868858:=()
def tw3493661053079852656:=()
def tw11392029354587033381:=()
def tw1235808550794108947:=()
def tw18373499449609503196:=()
def tw13947012659373727078:=()
def tw17487576246671235916:=()
def tw7268317717144492757:=()
def tw6722973166364555217:=()
def tw1267512103772144114:=()
def tw9646782984850578990:=()
def tw8502626747864198689:=()
def tw3554743575631555579:=()
def tw8287828158898399310:=()
def tw17835498862296113814:=()
def tw2574713673022378687:=()
def tw16772283620331321321:=()
def tw5464195074427478751:=()
def tw2240722581505526404:=()
def tw7329941746117761295:=()
def tw11115834507630692697:=()
def tw5918999941924885932:=()
def tw12848004085517009568:=()
def tw15515217940220780962:=()
def tw7005911582901909468:=()
def tw8711554184214177110:=()
def tw5139877057243044654:=()
def tw1070429514039772298:=()
def tw2812906988874414861:=()
def tw825921044941861247:=()
def tw10427721632879165371:=()
def tw14727179948105351456:=()
def tw9282738089388816358:=()
def tw9492918450010674201:=()
def tw13154804431080823101:=()
def tw3551874887692331738:=()
def tw14689087015619029161:=()
def tw15772629266536043404:=()
def tw5911769971943600622:=()
def tw8018314197507032403:=()
def tw1793306700828650934:=()
def tw5848258589918143101:=()
def tw12544133609916206337:=()
def tw5494539810025507645:=()
def tw15284893615671639876:=()
def tw1499855802278400249:=()
def tw15895912102514414580:=()
def tw11609456222416021491:=()
def tw18255297659010398700:=()
def tw8836413425502321386:=()
def tw7097963158661517454:=()
def tw3190057943672108066:=()
def tw13219041149412381531:=()
def tw8525034109897427935:=()
def tw16204818266011308526:=()
def tw12279358669451121465:=()
def tw14130922043454636153:=()
def tw12740160188596671692:=()
def tw14499206294325861631:=()
def tw9421631418953388431:=()
def tw5374121260984729749:=()
def tw1720194404069647206:=()
def tw16446340586994005667:=()
def tw14562207808482819043:=()
def tw6413756658063675538:=()
def tw18082627903799643396:=()
def tw767175531120962036:=()
def tw16391568805402668643:=()
def tw15115790169717400893:=()
def tw2572517477417134317:=()
def tw6944426569016923354:=()
def tw3556037965881980849:=()
def tw15925718199201389264:=()
def tw14319878959090371364:=()
def tw17721110979625770914:=()
def tw11384032656466018045:=()
def tw4416842890542502131:=()
def tw1269221816840511093:=()
def tw4682397692556905804:=()
def tw8379979158277831658:=()
def tw8499924727081964212:=()
def tw6986126884457631930:=()
def tw2005296602677843615:=()
def tw12470714269029302855:=()
def tw11298337567652756538:=()
def tw4627772032783818915:=()
def tw8189910929393711128:=()
def tw18255225686762050394:=()
def tw9255720161256907955:=()
def tw11961030498767475669:=()
def tw10559711828920761041:=()
def tw16375945894715374018:=()
def tw8253747670385079390:=()
def tw4597502492444074443:=()
def tw5340457155097630552:=()
def tw11920810017497943603:=()
def tw6839817243850543366:=()
def tw16486682624944553811:=()
def tw14336206416300775856:=()
def tw10055861411600978600:=()
def tw16350177131693527200:=()
def tw4807966499105805778:=()
def tw12211198204692481421:=()
def tw354987853328263752:=()
def tw3901735067227034699:=()
def tw10948750064658649452:=()
def tw6031516476030781108:=()
def tw14061924281900697082:=()
def tw13597702652189458787:=()
def tw553065600309083283:=()
def tw3155165029753275207:=()
def tw5734964017568253829:=()
def tw17666481375498213252:=()
def tw14142313329080007022:=()
def tw17892113953564914638:=()
def tw14171049380109353795:=()
def tw8684748006937209320:=()
def tw13138970345317678177:=()
def tw15447404711836927628:=()
def tw7123552837225782198:=()
def tw18079897182042396225:=()
def tw8594459483697126639:=()
def tw14282451396970951390:=()
def tw14025702480176433399:=()
def tw116875366950580278:=()
def tw7691341394089816661:=()
def tw8713088587333923555:=()
def tw4036520682327212322:=()
def tw17280523104222064468:=()
def tw16991873540893981918:=()
def tw4132993908230862656:=()
def tw16701505452964991916:=()
def tw12968123410109593261:=()
def tw5780638346463640307:=()
def tw14438507584463440874:=()
def tw5526601521095690023:=()
def tw3033900930686192778:=()
def tw2500507751642065204:=()
def tw14810147284062985281:=()
def tw6493276054405598487:=()
def tw7597444084270741163:=()
def tw15887736934254618590:=()
def tw15742909152822268431:=()
def tw389116422828741207:=()
def tw17451658130002259913:=()
def tw8191793629700358264:=()
def tw13114146989310975863:=()
def tw11488546648393663762:=()
def tw9809848107633963897:=()
def tw7254097681909515918:=()
def tw9626152218421057732:=()
def tw16672128932060621576:=()
def tw3123680475083146840:=()
def tw16941120364218974332:=()
def tw5053516212011909402:=()
def tw15187835952677523843:=()
def tw1852811957992816527:=()
def tw3089037383011536667:=()
def tw18238640050482793177:=()
def tw12383055694726824443:=()
def tw5294796647057916789:=()
def tw5476948030657092772:=()
def tw8819865165596157150:=()
def tw11600955242293426557:=()
def tw1490904000205737658:=()
def tw9215131241667252625:=()
def tw15715723926664658810:=()
def tw13134138013547432847:=()
def tw14601864252384442371:=()
def tw1755900658594356493:=()
def tw12800912858181276864:=()
def tw13176664420853226487:=()
def tw7373021695012191247:=()
def tw16257343915060627548:=()
def tw6827722467834928715:=()
def tw15471872066750767658:=()
def tw11221886047956251027:=()
def tw3859805827354589691:=()
def tw13682964926086167809:=()
def tw12531388197643825746:=()
def tw14358217796241367338:=()
def tw3964492355164712766:=()
def tw5687084417723227337:=()
def tw16948443222027598069:=()
def tw2785198890534521592:=()
def tw11098869767963545519:=()
def tw3559988833217759662:=()
def tw4213534333591165095:=()
def tw8779487912443948297:=()
def tw10620761550262652888:=()
def tw1211049916417018768:=()
def tw17663965906822107197:=()
def tw648821990870466740:=()
def tw17935750849928148600:=()
def tw5030193216868360461:=()
def tw305794380238323681:=()
def tw8236881715729925190:=()
def tw15167961555785580593:=()
def tw9083982593706457900:=()
def tw10473873542910511401:=()
def tw9980912743812958324:=()
def tw2227409125955050714:=()
def tw11591479231939895456:=()
def tw5538641547086038536:=()
def tw294784372445373943:=()
def tw9475604030874958724:=()
def tw17388886303240860539:=()
def tw359182347009814768:=()
def tw11084271050176152925:=()
def tw4153228863121843326:=()
def tw3072042456183643761:=()
def tw9760792841687224125:=()
def tw12107454076147900340:=()
def tw5112670604554780167:=()
def tw10964140270213054834:=()
def tw3595774870024828589:=()
def tw13611433043382020929:=()
def tw13938771426527638327:=()
def tw8978264020122074847:=()
def tw11444516474897181481:=()
def tw11256044324194893596:=()
def tw10296348008065658101:=()
def tw12264535126515407288:=()
def tw17974757555311648229:=()
def tw4417909376881838751:=()
def tw2807905179085739420:=()
def tw2754094593065239609:=()
def tw15223712909916614098:=()
def tw4275119691423440483:=()
def tw5284992117169378050:=()
def tw10197747134416830188:=()
def tw6876016886848382473:=()
def tw16972163854779032726:=()
def tw3753792848645643251:=()
def tw13750374108692372789:=()
def tw540877914764406015:=()
def tw6962572786016947934:=()
def tw4607098673858929507:=()
def tw1695760974184329930:=()
def tw7163385332566292741:=()
def tw17927087426622212547:=()
def tw17384060183484852058:=()
def tw18268675652790108104:=()
def tw3788514167623504987:=()
def tw16413092173895274960:=()
def tw16910241260610088942:=()
def tw10698583611872464420:=()
def tw12812096008685051905:=()
def tw13098605255420572139:=()
def tw18269311794433431803:=()
def tw10077133476352194286:=()
def tw11602744609341051980:=()
def tw8782582775013570792:=()
def tw17662471005334714523:=()
def tw11859251124799518682:=()
def tw15475153691232233572:=()
def tw1175124473305497647:=()
def tw13898082100018353259:=()
def tw7338986388253283371:=()
def tw17661662721013897530:=()
def tw6346632690660317300:=()
def tw10784024644693425518:=()
def tw4968331705274767459:=()
def tw11788467806549273651:=()
def tw2879796051664450393:=()
def tw16184406507485948922:=()
def tw862165211945299979:=()
def tw5945414538649402603:=()
def tw6341348717694035176:=()
def tw7133835901717474994:=()
def tw6389937496965041917:=()
def tw13833303598923181998:=()
def tw16102776992642289137:=()
def tw3592177053074770391:=()
def tw4401618482238320903:=()
def tw2784425416631930532:=()
def tw10419587276969005002:=()
def tw17174228300498920073:=()
def tw5341974467178030575:=()
def tw17905775084727581527:=()
def tw2388252747095014109:=()
def tw14317307685380371188:=()
def tw18122571215043855275:=()
def tw14545367198690174327:=()
def tw469516861437756978:=()
def tw14113835112753788235:=()
def tw17551000604530716850:=()
def tw17330984051858067853:=()
def tw6848374177598791962:=()
def tw858513662736501966:=()
def tw5265477971416554092:=()
def tw5813097181021275202:=()
def tw376441093433775879:=()
def tw7324454576555550697:=()
def tw11759416422946443457:=()
def tw10815575865501893172:=()
def tw6519746344888443247:=()
def tw738461393999156991:=()
def tw3615765531305922194:=()
def tw10492533928199711714:=()
def tw16530899830030995231:=()
def tw17022214179921019290:=()
def tw12795932988991092955:=()
def tw620522905345980483:=()
def tw9989005278321502706:=()
def tw9171359346755746164:=()
def tw11466344724464156610:=()
def tw1407676964508494220:=()
def tw8648386790211980896:=()
def tw651659895218726626:=()
def tw15843334021483729209:=()
def tw6113996238754830747:=()
def tw5932068520055540141:=()
def tw3233969963868584682:=()
def tw11964594892690171642:=()
def tw18347127588862077907:=()
def tw12010669259629143023:=()
def tw6111768392911384514:=()
def tw2093643773967931399:=()
def tw4639160096683864235:=()
def tw13469993617118089137:=()
def tw4347410631197794989:=()
def tw18194261795901216762:=()
def tw9334012804131786367:=()
def tw11206732527558977475:=()
def tw11071977116308032086:=()
def tw1504447758911771730:=()
def tw4587125291352780322:=()
def tw3271526835900225495:=()
def tw16115074361323909439:=()
def tw2902714807166287703:=()
def tw5692531466506849094:=()
def tw3401252547528932585:=()
def tw3590936933575916486:=()
def tw16219640377962811093:=()
def tw9663442753921310383:=()
def tw16981131691052742626:=()
def tw12388151964114044570:=()
def tw3396941690169713168:=()
def tw14088798368686401077:=()
def tw6480401040553892599:=()
def tw6246896616978322424:=()
def tw7843169916813418789:=()
def tw14579687078216556991:=()
def tw4714894685030667309:=()
def tw7200829693900880966:=()
def tw716580232681701814:=()
def tw5178692129472226216:=()
def tw13678644951431826206:=()
def tw13810264193587912559:=()
def tw15658424056017775714:=()
def tw15654432941266124721:=()
def tw13921482120918423373:=()
def tw12838173132147389684:=()
def tw198230848683550792:=()
def tw4850001447931855700:=()
def tw4588818030524349619:=()
def tw633539660369706249:=()
def tw10255013823406463730:=()
def tw4942914647348386147:=()
def tw2079064909169121033:=()
def tw18287140541343006583:=()
def tw2722776792785358191:=()
def tw12413495639414251919:=()
def tw10721615652878428497:=()
def tw4497231394283385363:=()
def tw8444107942430285826:=()
def tw16912581288411276309:=()
def tw18082821152859225974:=()
def tw16938991199466030170:=()
def tw16822519299830047207:=()
def tw17971997028093134879:=()
def tw18428931365568096673:=()
def tw16226629457825669322:=()
def tw16714876418231667915:=()
def tw2156887440524974799:=()
def tw8965218699293361129:=()
def tw7169445615447993156:=()
def tw7014228497543001425:=()
def tw17493716574559106550:=()
def tw6097966035817022388:=()
def tw10408811698817504444:=()
def tw4537183549911994570:=()
def tw3528697935688665434:=()
def tw5627608596628875186:=()
def tw10107944538686443058:=()
def tw3794334560951227674:=()
def tw14350475836220328644:=()
def tw2996644902682170829:=()
def tw13068405299398939094:=()
def tw2432621427940642158:=()
def tw10643099767095835652:=()
def tw11476820339161609959:=()
def tw820709161809840496:=()
def tw3850969516115224232:=()
def tw14493208454455746371:=()
def tw5752174496915940306:=()
def tw3597046920107994295:=()
def tw17562192519232303537:=()
def tw16536296102943622530:=()
def tw5875815822624436769:=()
def tw330165255373528776:=()
def tw10608397875592762219:=()
def tw4392156589738942858:=()
def tw9785000256153593497:=()
def tw8507397169596169198:=()
def tw16785543884308715005:=()
def tw18216110763471190836:=()
def tw17363516147140726139:=()
def tw12729142165495741318:=()
def tw16590231705355394332:=()
def tw14482989052700673602:=()
def tw2668018702184500361:=()
def tw13464357333808557973:=()
def tw14357816989194218288:=()
def tw10505102463352998185:=()
def tw5123246141458619860:=()
theorem te18018860527956180847:True:=trivial
end PySem.W.Fast
open PySem PySem.W PyProof.Rows
set_option maxRecDepth 100000 in
set_option maxHeartbeats 0 in
theorem PySem.Challenge.cw_helmsum_k65_whole_least_is_a_square_holds : PySem.Challenge.rw_helmsum_k65_whole_least_is_a_square.Holds := by
 w_on;o_law;k_head;(case hw=>w_witness2)
 k_fill
 refine Lw.walk (l:=PySem.Challenge.rw_helmsum_k65_whole_least_is_a_square) rfl rfl (λw h Y=>PySem.W.kIn_of Y) ?F
 case F =>
  intro w mg fa h KX G hmg;refine' Lw.all_mk KX G hmg ?aC ?_ ?_ ?_ ?_ ?_ ?_ ?_ ?_ ?_ ?_ ?_ ?_ ?_ ?_ ?_ ?_ ?_ ?_ ?_ ?_ ?_ ?_ ?a22 ?i22 ?l22 ?c22 ?k22 ?_ ?_ ?_ ?_ ?_ ?_ ?_ ?_ ?_ ?_ ?_ ?_ ?_ ?_ ?_ ?_ ?_ ?_ ?_ ?_ ?_ ?_ ?a45 ?i45 ?l45 ?c45 ?k45 ?_ ?_ ?_ ?_ ?_ ?_ ?_ ?_ ?_ ?_ ?_ ?_ ?_ ?_ ?_ ?_ ?_ ?_ ?_ ?_ ?ca0 ?cl0 ?ca1 ?cl1 ?ci0 ?ci1 ?ci2 ?pg ?hd ?po ?sa ?mk ?kc ?n_move ?n_states ?n_put ?n_ins ?n_look ?n_outs ?z_abs ?z_len ?z_min ?z_int ?z_range ?z_isinstance ?z_list ?z_bool ?z_tuple ?z_all ?z_enumerate ?z_max ?z_zip ?z_sum ?z_reversed
  all_goals try refine' Mu ?_ ?_ ?_ ?_
  all_goals try k_is