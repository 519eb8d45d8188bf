import PyProof.Rows.All
import Wide.All
import OpenK.AllK
import Wide.FinOn
import Lean
import PyProof.EqAt
import PyProof.EqKinds
import PyProof.TupleCall
import PyProof.NeKinds
import PySem.Challenge.RW_helmsum_k72_steered_first
set_option Elab.async false
set_option linter.all false
set_option maxRecDepth 100000
abbrev ND9:=@List.Nodup PySem.Str
abbrev aa:=@List.getD_eq_getElem?_getD
abbrev af:=@List.getElem?_eq_getElem
abbrev ag:=@List.length_map
abbrev aj:=@Nat.le_trans
abbrev ao:=@Nat.le_refl
abbrev ar:=@Nat.pow_le_pow_right
abbrev av:=@List.mem_of_getElem?
abbrev aw:=@List.length_append
abbrev ax:=@List.mem_append
abbrev ay:=@List.mem_map
abbrev aA:=@List.getElem?_eq_some_iff
abbrev aB:=@Nat.mul_le_mul_right
abbrev aD:=@List.getElem?_map
abbrev aE:=@List.mem_cons
abbrev aG:=@List.take_of_length_le
abbrev aI:=@List.size_toArray
abbrev aL:=@Nat.le_of_lt
abbrev aM:=@Rat.intCast_mul
abbrev aO:=@List.not_mem_nil
abbrev aP:=@Nat.mul_le_mul
abbrev aQ:=@Bool.false_ne_true
abbrev aS:=@List.length_singleton
abbrev aT:=@PySem.boot_len
abbrev aV:=@Nat.lt_of_le_of_lt
abbrev aY:=@Rat.intCast_natCast
abbrev aZ:=@List.getElem_mem
abbrev be:=@List.getElem?_eq_none
abbrev bf:=@Nat.lt_of_lt_of_le
abbrev bo:=@Nat.zero_le
abbrev bq:=@List.length_cons
abbrev bu:=@List.getElem?_append_right
abbrev bC:=@List.length_range
abbrev bF:=@List.mem_cons_of_mem
abbrev bG:=@List.mem_append_right
abbrev bH:=@List.map_append
abbrev bI:=@Nat.pow_add
abbrev bK:=@List.getElem_of_mem
abbrev bO:=@List.append_assoc
abbrev bQ:=@Option.some.inj
abbrev bR:=@Nat.lt_or_ge
abbrev bY:=@List.mem_or_eq_of_mem_set
abbrev bZ:=@List.getElem?_append_left
abbrev b8:=@List.mem_singleton
abbrev b9:=@Int.fdiv_eq_ediv_of_nonneg
abbrev cb:=@Nat.mul_assoc
abbrev cm:=@Nat.ne_of_lt
abbrev cp:=@Nat.mul_comm
abbrev cu:=@Nat.one_le_two_pow
abbrev cv:=@Nat.mul_le_mul_left
abbrev cx:=@List.nil_append
abbrev cB:=@Int.natAbs_natCast
abbrev cD:=@Nat.mul_pos
abbrev cJ:=@PySem.F.plainAttrs_list
abbrev cL:=@List.mem_of_mem_take
abbrev cM:=@List.mem_cons_self
abbrev cN:=@PySem.W.kia_one
abbrev cP:=@Nat.succ_le_succ
abbrev cQ:=@List.length_take
abbrev cR:=@List.length_zipWith
abbrev cS:=@List.getElem?_range
abbrev cV:=@List.nodup_append
abbrev cX:=@List.length_replicate
abbrev cY:=@Int.mul_assoc
abbrev cZ:=@Rat.intCast_inj
abbrev c6:=@Nat.le_mul_of_pos_right
abbrev c7:=@Bool.and_eq_true
abbrev dj:=@Rat.intCast_neg
abbrev dk:=@List.nodup_cons
abbrev dq:=@List.drop_eq_getElem_cons
abbrev du:=@List.getElem?_zipWith
abbrev dw:=@Int.natAbs_dvd_natAbs
abbrev dA:=@Nat.lt_succ_self
abbrev dB:=@List.cons_append
abbrev dC:=@Int.gcd_dvd_left
abbrev dE:=@PySem.F.type_list_append
abbrev dF:=@PySem.F.slot_list_append
abbrev dG:=@Nat.lt_irrefl
abbrev dH:=@Nat.pow_lt_pow_right
abbrev dI:=@Int.natAbs_mul
abbrev dQ:=@Int.gcd_dvd_right
abbrev dR:=@List.length_set
abbrev dZ:=@Nat.le_mul_of_pos_left
abbrev d4:=@Int.mul_comm
abbrev eN:=@Nat.not_lt_zero
abbrev eP:=@Nat.lt_trichotomy
abbrev fo:=@Int.eq_ofNat_of_zero_le
abbrev fB:=@Nat.mul_add
abbrev fE:=@Nat.pow_succ
abbrev fF:=@Int.emod_lt_of_pos
abbrev fG:=@Bool.false_eq_true
abbrev fU:=@Nat.le_of_dvd
abbrev fV:=@List.map_cons
abbrev gN:=@List.flatten_cons
abbrev gQ:=@Int.mul_pos
abbrev iC:=@Rat.mul_comm
abbrev iD:=@PySem.IsL.update
abbrev iE:=@List.lookup_cons
abbrev iF:=@List.ext_getElem
abbrev iG:=@Int.gcd_comm
abbrev iK:=@PySem.F.plain_extend_loop
abbrev iN:=@PySem.mem_of_lookup
abbrev iO:=@List.replicate_succ
abbrev iX:=@List.getElem?_take_of_lt
abbrev jb:=@List.mem_filter
abbrev jc:=@Int.emod_nonneg
abbrev je:=@Bool.eq_iff_iff
abbrev jH:=@Int.natCast_dvd_natCast
abbrev jI:=@Int.dvd_mul_of_dvd_left
abbrev j3:=@Nat.succ_mul
abbrev j4:=@Nat.sub_self
abbrev j5:=@List.nodup_nil
abbrev j6:=@List.drop_of_length_le
abbrev j7:=@Int.zero_add
abbrev kS:=@PySem.F.slot_zip_next
abbrev kT:=@List.all_eq_true
abbrev mO:=@Nat.le_succ
abbrev mP:=@List.mem_of_mem_drop
abbrev mQ:=@List.mem_append_left
abbrev mR:=@List.getElem_zipWith
abbrev mS:=@List.range_succ
abbrev oz:=@Rat.mul_zero
abbrev oA:=@List.map_map
abbrev pA:=@Nat.eq_zero_or_pos
abbrev pB:=@List.mem_range
abbrev pC:=@Int.natAbs_neg
abbrev pE:=@Int.eq_of_mul_eq_mul_right
abbrev p7:=@Int.mul_neg_of_pos_of_neg
abbrev rL:=@List.map_id
abbrev ug:=@Rat.intCast_eq_zero_iff
abbrev uh:=@Nat.le_add_right
abbrev ui:=@Nat.exists_eq_add_of_le
abbrev uE:=@PySem.W.cellsFrom_some
abbrev uF:=@Nat.add_comm
abbrev wW:=@Rat.natCast_mul
abbrev wX:=@Rat.intCast_sub
abbrev wY:=@Rat.intCast_add
abbrev wZ:=@List.length_zip
abbrev w5:=@List.append_nil
abbrev xg:=@Bool.beq_eq_decide_eq
abbrev yP:=@Rat.one_mul
abbrev yQ:=@List.replicate_succ'
abbrev yR:=@List.forIn_nil
abbrev Ar:=@Nat.pow_le_pow_left
abbrev As:=@List.filterMap_cons
abbrev BD:=@List.append_of_mem
abbrev DA:=@Rat.zero_mul
abbrev DB:=@Nat.ne_of_gt
abbrev DC:=@List.ext_getElem?
abbrev DD:=@Int.dvd_refl
abbrev El:=@Nat.min_le_right
abbrev Em:=@Nat.dvd_mul_left
abbrev En:=@List.getElem_map
abbrev FU:=@Rat.mul_one
abbrev FV:=@Nat.pow_pos
abbrev FW:=@Nat.one_mul
abbrev FX:=@List.drop_append_of_le_length
abbrev FY:=@Int.dvd_gcd
abbrev F2:=@List.of_mem_zip
abbrev F3:=@List.forIn_cons
abbrev F4:=@Int.gcd_pos_of_ne_zero_right
abbrev IX:=@List.length_eraseIdx_of_lt
abbrev Kp:=@PySem.F.entry_extend_loop
abbrev Kq:=@List.getElem?_zip_eq_some
abbrev Kr:=@Int.natAbs_ediv_of_nonneg
abbrev Kt:=@Option.isSome_iff_exists
abbrev Ku:=@List.mem_of_mem_eraseIdx
abbrev Kv:=@List.all_cons
abbrev Kw:=@Int.natAbs_eq
abbrev LH:=@PySem.F.args_zip_next_1
abbrev LI:=@List.getElem?_replicate
abbrev LJ:=@List.filter_cons_of_pos
abbrev LM:=@List.filter_cons_of_neg
abbrev LR9:=List (List Rat)
abbrev FG9:=PySem.W.Frag
namespace L2
open PySem PySem.Spec PyProof.Rows
abbrev Key:=Sum Int Str
def ID:Key->Value->Bool
 | .inl k,v=>Value.isInt k v
 | .inr x,v=>Value.isStrOf x v
def L8 (w:World):Key->Int
 | .inl k=>hashInt k
 | .inr x=>hashStr w x
theorem dO:∀{k:Key} {v:Value},ID k v=true->(∃i t,k=Sum.inl i/\v=Value.int i t)\/(∃x t,k=Sum.inr x/\v=Value.str x t)
 | .inl i,v,h=>by
  obtain ⟨t,e⟩:=Value.isInt_shape (k:=i) (v:=v) h;exact .inl ⟨i,t,rfl,e⟩
 | .inr x,v,h=>by
  obtain ⟨t,e⟩:=Value.isStrOf_shape (x:=x) (v:=v) h;exact .inr ⟨x,t,rfl,e⟩
theorem JZ (a b:Int):decide ((Sum.inl a:Key)=Sum.inl b)=(a == b):=by
 by_cases e:a=b
 ·subst e;simp
 ·have h:¬(Sum.inl a:Key)=Sum.inl b:=λq=>e (Sum.inl.inj q)
  rw[decide_eq_false h];exact (beq_eq_false_iff_ne.mpr e).symm
theorem JW (a b:Str):decide ((Sum.inr a:Key)=Sum.inr b)=decide (a=b):=by
 by_cases e:a=b
 ·subst e;simp
 ·have h:¬(Sum.inr a:Key)=Sum.inr b:=λq=>e (Sum.inr.inj q)
  rw[decide_eq_false h,decide_eq_false e]
theorem JY (a:Int) (b:Str):decide ((Sum.inl a:Key)=Sum.inr b)=false:=decide_eq_false (λq=>nomatch q)
theorem JX (a:Str) (b:Int):decide ((Sum.inr a:Key)=Sum.inl b)=false:=decide_eq_false (λq=>nomatch q)
def C2 (prog:Program) (w:World):PySem.KeyKind prog w Key where
 is:=ID
 hash:=L8 w
 inj:=λv a b ha hb=>by
  rcases dO ha with ⟨i,t,rfl,rfl⟩ | ⟨x,t,rfl,rfl⟩
  ·rcases dO hb with ⟨j,u,rfl,e⟩ | ⟨y,u,rfl,e⟩
   ·injection e with e1 _;rw[e1]
   ·exact nomatch e
  ·rcases dO hb with ⟨j,u,rfl,e⟩ | ⟨y,u,rfl,e⟩
   ·exact nomatch e
   ·injection e with e1 _;rw[e1]
 byValue:=λk v h=>by
  rcases dO h with ⟨i,t,rfl,rfl⟩ | ⟨x,t,rfl,rfl⟩ <;> rfl
 pyHash:=λhv h=>by
  rcases dO hv with ⟨i,t,rfl,rfl⟩ | ⟨x,t,rfl,rfl⟩
  ·exact wpAny_pyHash_int h
  ·exact wpAny_pyHash_str h
 eqBool:=λhu hv h=>by
  rcases dO hu with ⟨i,t,rfl,rfl⟩ | ⟨x,t,rfl,rfl⟩
  ·rcases dO hv with ⟨j,u,rfl,rfl⟩ | ⟨y,u,rfl,rfl⟩
   ·rw[JZ] at h;exact wpAny_eqBool_int h
   ·rw[JY] at h;exact SeqAt.EqAt.int_str i t y u _ _ _ _ h
  ·rcases dO hv with ⟨j,u,rfl,rfl⟩ | ⟨y,u,rfl,rfl⟩
   ·rw[JX] at h;exact SeqAt.EqAt.str_int x t j u _ _ _ _ h
   ·rw[JW] at h;exact wpAny_eqBool_str h
 «strs»:=λk x t v h=>by
  rcases dO h with ⟨i,u,rfl,e⟩ | ⟨y,u,rfl,e⟩
  ·exact nomatch e
  ·injection e with e1 _
   subst e1;cases v <;> rfl
inductive V where
  | non | bl (b : Bool) | int (i : Int) | str (x : Str) | byt (b : Array UInt8) | flt (b : UInt64) | ref (a : Addr) | ty (n : String)
  deriving DecidableEq

def RelV:V->Value->Prop
 | .non,u=>u=Value.none
 | .bl b,u=>u=Value.bool b
 | .int i,u=>∃t,u=Value.int i t
 | .str x,u=>∃t,u=Value.str x t
 | .byt b,u=>∃t,u=Value.bytes b t
 | .flt b,u=>∃t,u=Value.float b t
 | .ref a,u=>u=Value.ref a
 | .ty n,u=>u=Value.type n
abbrev cf:List V->List Value->Prop:=Paired RelV
theorem cf.length (r:cf xs us):xs.length=us.length:=Paired.length r
theorem cf.get:∀{xs:List V} {us:List Value} {i:Nat} {x:V},cf xs us->xs[i]?=some x->∃u,us[i]?=some u/\RelV x u
 | _,_,_,_,.nil,e=>by simp at e
 | _,_,0,_,.cons r _,e=>by simp at e;subst e;exact ⟨_,rfl,r⟩
 | _,_,i+1,x,.cons _ t,e=>by
  obtain ⟨u,h1,h2⟩:=cf.get (i:=i) (x:=x) t (by simpa using e);exact ⟨u,by simpa using h1,h2⟩
theorem cf.set {x:V} {u:Value} (r:RelV x u):∀{xs:List V} {us:List Value} (i:Nat),cf xs us->cf (xs.set i x) (us.set i u)
 | _,_,_,.nil=>.nil
 | _,_,0,.cons _ t=>.cons r t
 | _,_,i+1,.cons q t=>.cons q (cf.set r i t)
theorem cf.append:∀{xs ys:List V} {us ws:List Value},cf xs us->cf ys ws->cf (xs++ys) (us++ws)
 | _,_,_,_,.nil,s=>s
 | _,_,_,_,.cons r t,s=>.cons r (cf.append t s)
theorem cf.take:∀{xs:List V} {us:List Value} (n:Nat),cf xs us->cf (xs.take n) (us.take n)
 | _,_,0,_=>.nil
 | _,_,_+1,.nil=>.nil
 | _,_,n+1,.cons r t=>.cons r (cf.take n t)
theorem cf.drop:∀{xs:List V} {us:List Value} (n:Nat),cf xs us->cf (xs.drop n) (us.drop n)
 | _,_,0,r=>r
 | _,_,_+1,.nil=>.nil
 | _,_,n+1,.cons _ t=>cf.drop n t
def Cu:Option V->Option Value->Prop
 | some v,some u=>RelV v u
 | none,none=>True
 | _,_=>False
def KV {κ:Type}:List (κ×V)->List (κ×Value)->Prop:=Paired λ(p:κ×V) (q:κ×Value)=>p.1=q.1/\RelV p.2 q.2
def kV:Key->V
 | .inl i=>.int i
 | .inr x=>.str x
inductive HO where
 | lst (xs:List V)
 | tup (xs:List V)
 | dK (kvs:List (Key×V)) | dT (kvs:List (List Key×V))
 | set (S:Int->Bool) (n:Nat)
 | ins (C dx:Addr) (fs:List (Str×V))
 | own (x:Addr)
 | xd (fs:List (Str×V))
 | met (f x:Addr)
 | rng (lo hi:Int)
 | frz (o:Obj) (u:HO)
 | tbl (ps:Array Value)
 | ext (φ:Heap->Prop)
abbrev Hp:=Addr->Option HO
def upd (H:Hp) (a:Addr) (o:HO):Hp:=λb=>if b=a then some o else H b
theorem aH:upd H a o a=some o:=by unfold upd;rw[if_pos rfl]
theorem a7 (h:b≠a):upd H a o b=H b:=by unfold upd;rw[if_neg h]
theorem dS {H:Hp} (h:H a=some o) (h':H b=none):a≠b:=by
 intro e;subst e;rw[h] at h';cases h'
section
variable (P:Program) (w:World)
def fQ (H:Hp) (h:Heap) (a:Addr):HO->Prop
 | .lst xs=>xs.length<=sizeLine/\∃(its:List Value) (n:Nat),cf xs its/\h.get? a=some { cls:=.type "list",data:=.seq its.toArray n }
 | .tup xs=>xs.length<=sizeLine/\∃its:List Value,cf xs its/\IsTup h a its.toArray
 | .dK kvs=>kvs.length<=sizeLine/\(a == sysModules)=false/\∃vs,KV kvs vs/\h.DictOf (C2 P w) a vs
 | .dT kvs=>kvs.length<=sizeLine/\(a == sysModules)=false/\∃xs:List (List Key×Addr×Value),
   Paired (λ(p:List Key×V) (q:List Key×Addr×Value)=>p.1=q.1/\H q.2.1=some (.tup (p.1.map kV))/\RelV p.2 q.2.2) kvs xs /\
   ∃o es ep,h.get? a=some o/\o.ExactDict/\o.data=.dict es ep/\es.toList=xs.map (entryOfKey (tupleKind (C2 P w)))/\(xs.map (·.1)).Nodup
 | .set S n=>h.SetOf (intKind P w) a S n
 | .ins C dx fs=>H dx=some (.own a)/\fs.length<=1000/\dx≠a/\h.get? a=some (PySem.W.instObj C dx) /\
   ∃mA,h.Ns1 dx mA/\(∀f,Cu (fs.lookup f) (mA f))/\PySem.Within mA (fs.map (·.1))
 | .own _=>∃o,h.get? a=some o
 | .xd fs=>∃mA,h.Ns1 a mA/\∀f,Cu (fs.lookup f) (mA f)
 | .rng lo hi=>∃t u v,h.get? a=some { cls:=.type "range",data:=.fields #[.int lo t,.int hi u,.int 1 v] }
 | .frz o u=>h.get? a=some o/\fQ H h a u
 | .tbl ps=>h.get? a=some { cls:=.none,data:=.fields ps }
 | .met f x=>h.get? a=some (PySem.W.methodObj (.ref f) (.ref x))
 | .ext φ=>φ h/\(∃o,h.get? a=some o)/\∀h1 h2:Heap,φ h1->(∀o,h1.get? a=some o->h2.get? a=some o)->φ h2
def uD (H:Hp) (h:Heap):Prop:=∀a o,H a=some o->fQ P w H h a o
end
section
variable {P:Program} {w:World} {H H':Hp} {h h':Heap} {a:Addr} {o:HO}
theorem fQ.lt (x:fQ P w H h a o):a < h.objs.size:=by
 cases o with
 | lst xs=>obtain ⟨_,_,_,_,e⟩:=x;exact Heap.lt_size e
 | tup xs=>obtain ⟨_,_,_,p⟩:=x;exact p.lt
 | dK kvs=>obtain ⟨_,_,_,_,o,_,_,e,_⟩:=x;exact Heap.lt_size e
 | dT kvs=>obtain ⟨_,_,_,_,o,_,_,e,_⟩:=x;exact Heap.lt_size e
 | set S n=>obtain ⟨o,_,_,_,e,_⟩:=x;exact Heap.lt_size e
 | ins C dx fs=>obtain ⟨_,_,_,e,_⟩:=x;exact Heap.lt_size e
 | own y=>obtain ⟨_,e⟩:=x;exact Heap.lt_size e
 | xd fs=>obtain ⟨_,⟨_,_,_,e,_⟩,_⟩:=x;exact Heap.lt_size e
 | rng lo hi=>obtain ⟨_,_,_,e⟩:=x;exact Heap.lt_size e
 | frz ob u=>obtain ⟨e,_⟩:=x;exact Heap.lt_size e
 | tbl ps=>exact Heap.lt_size (show h.get? a=some _ from x)
 | met f y=>exact Heap.lt_size (show h.get? a=some _ from x)
 | ext φ=>obtain ⟨_,⟨_,e⟩,_⟩:=x;exact Heap.lt_size e
theorem Paired.mapP {α β:Type} {F G:α->β->Prop}:∀{l₁:List α} {l₂:List β},Paired F l₁ l₂->(∀a b,F a b->G a b)->Paired G l₁ l₂
 | _,_,.nil,_=>.nil
 | _,_,.cons r t,f=>.cons (f _ _ r) (Paired.mapP t f)
theorem Paired.imp' {F G:α->β->Prop} (f:∀a b,F a b->G a b) {l₁:List α} {l₂:List β} (r:Paired F l₁ l₂):Paired G l₁ l₂:=Paired.mapP r f
theorem fQ.stay (x:fQ P w H h a o) (k:∀b u,(b=a\/H b=some (.own a))->h.get? b=some u->h'.get? b=some u)
  (ho:∀b,H b=some (.own a)->H' b=some (.own a)) (ht:∀b xs,H b=some (.tup xs)->H' b=some (.tup xs)):fQ P w H' h' a o:=by
 induction o with
 | lst xs=>obtain ⟨z,its,n,r,e⟩:=x;exact ⟨z,its,n,r,k _ _ (.inl rfl) e⟩
 | tup xs=>obtain ⟨z,its,r,ob,e,c⟩:=x;exact ⟨z,its,r,ob,k _ _ (.inl rfl) e,c⟩
 | dK kvs=>obtain ⟨z,y,vs,r,ob,es,ep,e,c⟩:=x;exact ⟨z,y,vs,r,ob,es,ep,k _ _ (.inl rfl) e,c⟩
 | dT kvs =>
  obtain ⟨z,y,xs,r,ob,es,ep,e,c⟩:=x;exact ⟨z,y,xs,Paired.mapP r λp q z=>⟨z.1,ht _ _ z.2.1,z.2.2⟩,ob,es,ep,k _ _ (.inl rfl) e,c⟩
 | set S n=>obtain ⟨ob,es,ep,t,e,c⟩:=x;exact ⟨ob,es,ep,t,k _ _ (.inl rfl) e,c⟩
 | ins C dx fs =>
  obtain ⟨d,z,ne,e,mA,⟨od,es,ep,e2,c⟩,r⟩:=x;exact ⟨ho _ d,z,ne,k _ _ (.inl rfl) e,mA,⟨od,es,ep,k _ _ (.inr d) e2,c⟩,r⟩
 | own y=>obtain ⟨ob,e⟩:=x;exact ⟨ob,k _ _ (.inl rfl) e⟩
 | xd fs=>obtain ⟨mA,⟨od,es,ep,e,c⟩,r⟩:=x;exact ⟨mA,⟨od,es,ep,k _ _ (.inl rfl) e,c⟩,r⟩
 | rng lo hi=>obtain ⟨t,u,v,e⟩:=x;exact ⟨t,u,v,k _ _ (.inl rfl) e⟩
 | frz ob u ih=>obtain ⟨e,q⟩:=x;exact ⟨k _ _ (.inl rfl) e,ih q⟩
 | tbl ps =>
  have e:h.get? a=some { cls:=.none,data:=.fields ps }:=x;show h'.get? a=some { cls:=.none,data:=.fields ps }
  exact k a _ (.inl rfl) e
 | met f y =>
  have e:h.get? a=some (PySem.W.methodObj (.ref f) (.ref y)):=x;show h'.get? a=some (PySem.W.methodObj (.ref f) (.ref y))
  exact k a _ (.inl rfl) e
 | ext φ=>obtain ⟨p,⟨o,e⟩,st⟩:=x;exact ⟨st _ _ p λo q=>k _ _ (.inl rfl) q,⟨o,k _ _ (.inl rfl) e⟩,st⟩
theorem uD.lt (x:uD P w H h) (e:H a=some o):a < h.objs.size:=(x a o e).lt
theorem uD.fresh (x:uD P w H h) (e:h.objs.size<=a):H a=none:=by
 cases q:H a with
 | none=>rfl
 | some u=>exact absurd (bf (x.lt q) e) (dG _)
theorem uD.kept (x:uD P w H h) (k:∀b u,h.get? b=some u->h'.get? b=some u):uD P w H h':=λa o e =>
 (x a o e).stay (λb u _ q=>k b u q) (λ_ q=>q) λ_ _ q=>q
theorem uD.laid (x:uD P w H h) (k:∀b u,h.get? b=some u->h'.get? b=some u) (hp:h.objs.size<=a) (new:fQ P w (upd H a o) h' a o):uD P w (upd H a o) h':=λb u e=>by
 have hn:=x.fresh hp;by_cases hb:b=a
 ·subst hb;rw[aH] at e;cases e;exact new
 ·rw[a7 hb] at e;exact (x b u e).stay (λc v _ q=>k c v q) (λc q=>by rw[a7 (dS q hn)];exact q) λc xs q=>by rw[a7 (dS q hn)];exact q
end
def Rd (H:Hp) (a:Addr) (u:HO):Prop:=H a=some u\/∃o,H a=some (.frz o u)
theorem Rd.ok (r:Rd H a u) (x:uD P w H h):fQ P w H h a u:=by
 rcases r with r | ⟨o,r⟩
 ·exact x a u r
 ·obtain ⟨_,q⟩:=x a _ r;exact q
def LU:Option HO->Prop
 | some (.lst _)=>True
 | some (.dK _)=>True
 | some (.dT _)=>True
 | some (.set _ _)=>True
 | some (.ins _ _ _)=>True
 | some (.ext _)=>True
 | _=>False
section
variable {P:Program} {w:World} {H:Hp} {h h':Heap} {x e:Addr} {o':HO}
theorem uD.write (ok:uD P w H h) (mu:LU (H x)) (he:e=x\/H e=some (.own x)) (k:∀b u,b≠e->h.get? b=some u->h'.get? b=some u) (heo:∃u,h'.get? e=some u)
  (new:fQ P w (upd H x o') h' x o'):uD P w (upd H x o') h':=λb u q=>by
 have nown:∀c y,H c=some (.own y)->c≠x:=λc y r z=>by subst z;rw[r] at mu;exact mu
 have ntup:∀c xs,H c=some (.tup xs)->c≠x:=λc xs r z=>by subst z;rw[r] at mu;exact mu
 by_cases hb:b=x
 ·subst hb;rw[aH] at q;cases q;exact new
 ·rw[a7 hb] at q;by_cases hbe:b=e
  ·have q':H b=some (.own x):=by
    rcases he with z | z
    ·exact absurd (hbe.trans z) hb
    ·rw[hbe];exact z
   rw[q] at q';cases q';obtain ⟨v,hv⟩:=heo;exact ⟨v,by rw[hbe];exact hv⟩
  ·refine (ok b u q).stay (λc v hc r=>k c v ?_ r) (λc r=>by rw[a7 (nown c b r)];exact r) λc xs r=>by rw[a7 (ntup c xs r)];exact r
   rcases hc with rfl | hc
   ·exact hbe
   ·rintro rfl;rcases he with z | z
    ·exact nown c b hc z
    ·rw[hc] at z;cases z;exact hb rfl
end
structure Un (fs ex:List Addr) (H H':Hp) (h h':Heap):Prop where
 keep:∀b o,h.get? b=some o->H b=none->b∉fs->b∉ex->h'.get? b=some o
 slot:∀b o,h.get? b=some o->H b=none->b∈fs->b∉ex->∃sl,h'.get? b=some { o with slots:=sl }
 free:∀b o,h.get? b=some o->H b=none->b∉ex->H' b=none
 there:∀b o,h.get? b=some o->b∉ex->∃o',h'.get? b=some o'
 tups:∀b xs,H b=some (.tup xs)->H' b=some (.tup xs)
 frzs:∀b o u,H b=some (.frz o u)->H' b=some (.frz o u)
 tbls:∀b ps,H b=some (.tbl ps)->∃more,H' b=some (.tbl (ps++more))
section
variable {fs fs' ex ex':List Addr} {H H1 H2:Hp} {h h1 h2 h':Heap} {a x e:Addr} {o:HO}
theorem Un.any (u:Un fs ex H H1 h h1) (q:h.get? b=some ob) (n:H b=none) (hx:b∉ex):∃sl,h1.get? b=some { ob with slots:=sl }:=by
 by_cases hb:b∈fs
 ·exact u.slot b ob q n hb hx
 ·exact ⟨ob.slots,u.keep b ob q n hb hx⟩
theorem Un.kept (k:∀b u,h.get? b=some u->h'.get? b=some u):Un fs ex H H h h' :=
 ⟨λb ob q _ _ _=>k b ob q,λb ob q _ _ _=>⟨ob.slots,k b ob q⟩,λ_ _ _ n _=>n,λb ob q _=>⟨ob,k b ob q⟩,λ_ _ q=>q,λ_ _ _ q=>q,λ_ ps q=>⟨#[],by rw[q];simp⟩⟩
theorem Un.refl:Un fs ex H H h h:=Un.kept λ_ _ q=>q
theorem Un.laid (k:∀b u,h.get? b=some u->h'.get? b=some u) (hp:h.objs.size<=a) (hn:H a=none):Un fs ex H (upd H a o) h h' where
 keep:=λb u q _ _ _=>k b u q
 slot:=λb u q _ _ _=>⟨u.slots,k b u q⟩
 free:=λb u q n _=>by rw[a7 (cm (bf (Heap.lt_size q) hp))];exact n
 there:=λb u q _=>⟨u,k b u q⟩
 tups:=λb xs q=>by rw[a7 (dS q hn)];exact q
 frzs:=λb u xs q=>by rw[a7 (dS q hn)];exact q
 tbls:=λb ps q=>⟨#[],by rw[a7 (dS q hn),q];simp⟩
theorem Un.write (mu:LU (H x)) (he:e=x\/H e=some (.own x)) (k:∀b u,b≠e->h.get? b=some u->h'.get? b=some u) (heo:∃u,h'.get? e=some u):Un fs ex H (upd H x o) h h':=by
 have hx:∀b,H b=none->b≠x:=λb n z=>by subst z;rw[n] at mu;exact mu
 have hb:∀b,H b=none->b≠e:=λb n z=>by
  subst z;rcases he with r | r
  ·exact hx b n r
  ·rw[n] at r;cases r
 have hm:∀b u,H b=some u->¬LU (some u)->b≠x:=λb u q nm z=>by subst z;rw[q] at mu;exact nm mu
 refine ⟨λb u q n _ _=>k b u (hb b n) q,λb u q n _ _=>⟨u.slots,k b u (hb b n) q⟩,λb u q n _=>by rw[a7 (hx b n)];exact n,λb u q _=>?_,
  λb xs q=>by rw[a7 (hm b _ q λz=>z)];exact q,λb u xs q=>by rw[a7 (hm b _ q λz=>z)];exact q,λb ps q=>⟨#[],by rw[a7 (hm b _ q λz=>z),q];simp⟩⟩
 by_cases hbe:b=e
 ·subst hbe;exact heo
 ·exact ⟨u,k b u hbe q⟩
end
def LN (h:Heap) (H:Hp):List Addr:=(List.range h.objs.size).filter λa=>(H a).isSome
def z6 (h:Heap) (H:Hp):Heap:=PySem.W.hideAll h (LN h H)
theorem D9 (h:Heap) (H:Hp):(z6 h H).objs.size=h.objs.size:=PySem.W.hideAll_size _ _
theorem Fp (e:h.get? b=some o) (n:H b=none):(z6 h H).get? b=some o :=
 PySem.W.hideAll_get _ e λhm=>by
  have q:(H b).isSome=true:=(jb.mp hm).2;rw[n] at q;simp at q
theorem HF (e:(z6 h H).get? b=some o):h.get? b=some o/\H b=none:=by
 have e':h.get? b=some o:=PySem.W.of_hideAll (LN h H) e;refine ⟨e',?_⟩;cases q:H b with
 | none=>rfl
 | some x =>
  have hm:b∈LN h H:=jb.mpr ⟨pB.mpr (Heap.lt_size e'),by simp [q]⟩;have z:(z6 h H).get? b=none:=PySem.W.hideAll_none (LN h H) hm;rw[z] at e;cases e
structure Mod (K:FG9) (mg:Str->Option Value) (base:Heap):Prop where
 kin:K.In base
 glob:base.Ns mainGlobals mg
 blt:∃mb,base.Ns builtinsNs mb/\∀x:Str,x≠"__name__"->mb x=bootBuiltins x
 nolimit:base.NoLimit
structure Cx where
 prog:Program
 w:World
 K:FG9
 mg:Str->Option Value
 base:Heap
 A:Around
 N:List Str
 s₀:Shared
 H₀:Hp
 env:Env
 outer:List Env
 stack:List Env
 ex:List Addr
 fn:Str->Bool
 calm:Bool
 pn:List (Addr×Obj)
 xe:Value->Shared->Prop
def Ek (l:List Env):List Addr:=l.filterMap (·.frame)
abbrev Cx.fs (X:Cx):List Addr:=Ek X.outer
def Md (sc:Scope) (x:Str):Prop:=sc.names.lookup x=some .local\/sc.names.lookup x=some .cell\/sc.names.lookup x=some .free
def Loc (sc:Scope) (x:Str):Prop:=sc.names.lookup x=some .local\/sc.names.lookup x=some .cell
def Look (env:Env) (h:Heap) (m:Str->Option Value) (x:Str) (u:Value):Prop :=
 (env.kindOf x=some .local/\m x=some u)\/((env.kindOf x=some .cell\/env.kindOf x=some .free)/\∃c,env.cells.lookup x=some c/\h.IsCell c (some u))
structure Cx.Ok (X:Cx):Prop where
 mod:Mod X.K X.mg X.base
 kind:X.env.scope.kind=.function
 glob:X.env.globals=mainGlobals
 blt:X.env.builtins=builtinsNs
 above:X.s₀.heap.objs.size<=X.env.locals
 inj:∀x y c,X.env.cells.lookup x=some c->X.env.cells.lookup y=some c->x=y
 has:∀x,(X.env.kindOf x=some .cell\/X.env.kindOf x=some .free)->∃c,X.env.cells.lookup x=some c
 cab:∀x c,X.fn x=true->X.env.cells.lookup x=some c->X.s₀.heap.objs.size<=c
 hd:X.calm=true->X.A.handled=none
 frames:X.A.frames=some X.stack
 stk:X.stack=X.outer\/(X.stack=X.env :: X.outer/\X.env.frame=some X.env.locals)
 exf:∀b∈X.ex,b≠X.env.locals/\∀x c,X.env.cells.lookup x=some c->c≠b
 bs:∀b o,X.base.get? b=some o->X.s₀.heap.get? b=some o/\X.H₀ b=none
 bsz:X.base.objs.size<=X.s₀.heap.objs.size
 noex:∀b o,X.base.get? b=some o->b∉X.ex
 exfs:∀b∈X.ex,b∉X.fs
 funs:X.s₀.heap.FunFrames X.base X.outer
 frf:∀b∈X.fs,X.H₀ b=none
structure Inv (X:Cx) (pins:List (Addr×Obj)) (σ:List (Option V)) (H:Hp) (s:Shared):Prop where
 ok:X.Ok
 os:s.os=X.s₀.os
 bare:AllBare s.gens
 base:Un X.fs X.ex X.H₀ H X.s₀.heap s.heap
 loc:∃m,s.heap.Ns X.env.locals m/\∀(i:Nat) (x:Str) (v:V),X.N[i]?=some x->σ[i]?=some (some v)->Md X.env.scope x->∃u,RelV v u/\Look X.env s.heap m x u
 cell:∀x c,X.env.cells.lookup x=some c->∃v,s.heap.IsCell c v
 free:H X.env.locals=none
 freeC:∀x c,X.env.cells.lookup x=some c->H c=none
 pin:∀p∈X.pn++pins,s.heap.get? p.1=some p.2/\H p.1=none/\p.1≠X.env.locals/\p.1∉X.fs/\∀v,p.2.data≠.cell v
 hok:uD X.prog X.w H s.heap
 len:σ.length=X.N.length
section
variable {X:Cx} {pins:List (Addr×Obj)} {σ:List (Option V)} {H H':Hp} {s:Shared} {h':Heap}
theorem Cx.Ok.nofr (ok:X.Ok) (e:X.base.get? b=some o):b∉X.fs:=λhb=>by
 have:=(ok.funs.mem hb).1;rw[e] at this;cases this
theorem Inv.bs (I:Inv X pins σ H s):∀b o,X.base.get? b=some o->s.heap.get? b=some o/\H b=none:=λb o e =>
 ⟨I.base.keep b o (I.ok.bs b o e).1 (I.ok.bs b o e).2 (I.ok.nofr e) (I.ok.noex b o e),I.base.free b o (I.ok.bs b o e).1 (I.ok.bs b o e).2 (I.ok.noex b o e)⟩
theorem Inv.bk (I:Inv X pins σ H s):∀b o,X.base.get? b=some o->s.heap.get? b=some o:=λb o e=>(I.bs b o e).1
theorem Inv.mod (I:Inv X pins σ H s):Mod X.K X.mg X.base:=I.ok.mod
theorem Inv.kIn (I:Inv X pins σ H s):X.K.In s.heap:=I.ok.mod.kin.keeps I.bk
theorem Inv.lt (I:Inv X pins σ H s):X.env.locals < s.heap.objs.size:=let ⟨_,hn,_⟩:=I.loc;hn.lt
theorem Inv.sz (I:Inv X pins σ H s):X.s₀.heap.objs.size<=s.heap.objs.size:=aj I.ok.above (aL I.lt)
theorem Inv.nofs (I:Inv X pins σ H s) {a:Addr} (h:s.heap.objs.size<=a):a∉X.fs:=λhb=>by
 obtain ⟨_,o,ho,_⟩:=I.ok.funs.mem hb;exact absurd (bf (Heap.lt_size ho) (aj I.sz h)) (dG _)
theorem Inv.cne (I:Inv X pins σ H s):∀x c,X.env.cells.lookup x=some c->c≠X.env.locals:=λx c e z=>by
 obtain ⟨v,o,ho,hd⟩:=I.cell x c e;obtain ⟨m,⟨o',es,ep,ho',hd',_⟩,_⟩:=I.loc;rw[z,ho'] at ho;cases ho;rw[hd'] at hd;cases hd
theorem Inv.funs (I:Inv X pins σ H s):s.heap.FunFrames X.base X.outer:=by
 have all:∀(l:List Env),(∀b∈Ek l,b∈X.fs)->X.s₀.heap.FunFrames X.base l->s.heap.FunFrames X.base l:=by
  intro l
  induction l with
  | nil=>intro _ _;trivial
  | cons env r ih =>
   intro hs hl;obtain ⟨hk,⟨L,o,hf,hn,ho,hd⟩,hr⟩:=hl;have hL:L∈X.fs:=hs L (by unfold Ek;rw[As,hf];exact cM);obtain ⟨sl,e⟩:=I.base.slot L o ho (I.ok.frf L hL) hL λz=>I.ok.exfs L z hL
   exact ⟨hk,⟨L,_,hf,hn,e,hd⟩,ih (λb hb=>hs b (by unfold Ek;rw[As,hf];exact bF _ hb)) hr⟩
 exact all X.outer (λ_ hb=>hb) I.ok.funs
theorem Inv.stack (I:Inv X pins σ H s):s.heap.FunFrames X.base X.stack:=by
 rcases I.ok.stk with e | ⟨e,hf⟩
 ·rw[e];exact I.funs
 ·rw[e];obtain ⟨m,hn,_⟩:=I.loc;refine .cons (by rw[I.ok.kind];decide) hf hn ?_ I.funs;exact Heap.get?_none_of_le (aj I.ok.bsz I.ok.above)
theorem Inv.stkSub (I:Inv X pins σ H s):∀b∈Ek X.stack,b∈X.env.locals :: X.fs:=λb hb=>by
 rcases I.ok.stk with e | ⟨e,hf⟩
 ·rw[e] at hb;exact bF _ hb
 ·rw[e] at hb;unfold Ek at hb;rw[As,hf] at hb;exact hb
theorem Inv.stkFree (I:Inv X pins σ H s):∀b∈Ek X.stack,H b=none:=λb hb=>by
 rcases aE.mp (I.stkSub b hb) with e | hb
 ·rw[e];exact I.free
 ·obtain ⟨_,o,ho,_⟩:=I.ok.funs.mem hb;exact I.base.free b o ho (I.ok.frf b hb) λz=>I.ok.exfs b z hb
theorem Inv.step {ch:List Addr} (I:Inv X pins σ H s)
  (hch:∀b∈ch,(b∈X.ex\/X.s₀.heap.objs.size<=b)/\b≠X.env.locals/\(∀x c,X.env.cells.lookup x=some c->c≠b)/\∀p∈X.pn++pins,p.1≠b)
  (keep:∀b o,b≠X.env.locals->b∉X.fs->b∉ch->s.heap.get? b=some o->H b=none->h'.get? b=some o)
  (slot:∀b o,b≠X.env.locals->b∈X.fs->b∉ch->s.heap.get? b=some o->H b=none->∃sl,h'.get? b=some { o with slots:=sl }) (free:∀b o,b∉ch->s.heap.get? b=some o->H b=none->H' b=none)
  (there:∀b o,b∉ch->s.heap.get? b=some o->∃o',h'.get? b=some o')
  (tups:∀b xs,H b=some (.tup xs)->H' b=some (.tup xs)) (frzs:∀b o u,H b=some (.frz o u)->H' b=some (.frz o u)) (tbls:∀b ps,H b=some (.tbl ps)->∃more,H' b=some (.tbl (ps++more)))
  (ns:∀m,s.heap.Ns X.env.locals m->h'.Ns X.env.locals m) (hok:uD X.prog X.w H' h') (hg:AllBare g') :
  Inv X pins σ H' { s with heap:=h',gens:=g',drawn:=d',toks:=t' }:=by
 have neL:∀b o,X.s₀.heap.get? b=some o->b≠X.env.locals:=λb o e=>cm (bf (Heap.lt_size e) I.ok.above)
 have neC:∀b o,X.s₀.heap.get? b=some o->b∉X.ex->b∉ch:=λb o e hx hb=>by
  rcases (hch b hb).1 with z | z
  ·exact hx z
  ·exact absurd (bf (Heap.lt_size e) z) (dG _)
 have cellK:∀x c,X.env.cells.lookup x=some c->∀v,s.heap.IsCell c v->h'.IsCell c v:=λx c e v ⟨o,ho,hd⟩=>by
  have nch:c∉ch:=λz=>(hch c z).2.2.1 x c e rfl
  by_cases hc:c∈X.fs
  ·obtain ⟨sl,q⟩:=slot c o (I.cne x c e) hc nch ho (I.freeC x c e);exact ⟨_,q,hd⟩
  ·exact ⟨o,keep c o (I.cne x c e) hc nch ho (I.freeC x c e),hd⟩
 refine ⟨I.ok,I.os,hg,⟨λb o e n hb hx=>?_,λb o e n hb hx=>?_,λb o e n hx=>?_,λb o e hx=>?_,λb xs e=>tups b xs (I.base.tups b xs e),λb o xs e=>frzs b o xs (I.base.frzs b o xs e),λb ps e=>?_⟩,?_,λx c e=>?_,?_,λx c e=>?_,λp hp=>?_,hok,I.len⟩
 ·exact keep b o (neL b o e) hb (neC b o e hx) (I.base.keep b o e n hb hx) (I.base.free b o e n hx)
 ·obtain ⟨sl,e1⟩:=I.base.slot b o e n hb hx;obtain ⟨sl',e2⟩:=slot b _ (neL b o e) hb (neC b o e hx) e1 (I.base.free b o e n hx);exact ⟨sl',e2⟩
 ·obtain ⟨o',e1⟩:=I.base.there b o e hx;exact free b o' (neC b o e hx) e1 (I.base.free b o e n hx)
 ·obtain ⟨o',e1⟩:=I.base.there b o e hx;exact there b o' (neC b o e hx) e1
 ·obtain ⟨m1,e1⟩:=I.base.tbls b ps e;obtain ⟨m2,e2⟩:=tbls b _ e1;exact ⟨m1++m2,by rw[e2,Array.append_assoc]⟩
 ·obtain ⟨m,hn,hl⟩:=I.loc;refine ⟨m,ns m hn,λi x v e1 e2 e3=>?_⟩;obtain ⟨u,r,l⟩:=hl i x v e1 e2 e3;refine ⟨u,r,?_⟩;rcases l with l | ⟨k,c,e,z⟩
  ·exact .inl l
  ·exact .inr ⟨k,c,e,cellK x c e _ z⟩
 ·obtain ⟨v,z⟩:=I.cell x c e;exact ⟨v,cellK x c e v z⟩
 ·obtain ⟨m,⟨o,_,_,ho,_⟩,_⟩:=I.loc;exact free _ o (λz=>(hch _ z).2.1 rfl) ho I.free
 ·obtain ⟨v,o,ho,hd⟩:=I.cell x c e;exact free c o (λz=>(hch c z).2.2.1 x c e rfl) ho (I.freeC x c e)
 ·obtain ⟨e,n,ne,nf,d⟩:=I.pin p hp;have nch:p.1∉ch:=λz=>(hch p.1 z).2.2.2 p hp rfl
  exact ⟨keep p.1 p.2 ne nf nch e n,free p.1 p.2 nch e n,ne,nf,d⟩
theorem Inv.un (I:Inv X pins σ H s) (u:Un X.fs [] H H' s.heap h') (hok:uD X.prog X.w H' h'):Inv X pins σ H' { s with heap:=h',toks:=t' }:=by
 obtain ⟨m,⟨o,es,ep,ho,r⟩,_⟩:=id I.loc;obtain ⟨sl,hL⟩:=u.any ho I.free (by simp)
 exact I.step (g':=s.gens) (d':=s.drawn) (ch:=[]) (λ_ z=>nomatch z) (λb o _ hb _ e n=>u.keep b o e n hb (by simp)) (λb o _ hb _ e n=>u.slot b o e n hb (by simp)) (λb o _ e n=>u.free b o e n (by simp)) (λb o _ e=>u.there b o e (by simp)) u.tups u.frzs u.tbls (λm' hm=>by
  obtain ⟨o',es',ep',ho',r'⟩:=hm;rw[ho] at ho';cases ho';exact ⟨_,es',ep',hL,r'⟩) hok I.bare
theorem Inv.call (I:Inv X pins σ H s) (u:Un (Ek X.stack) ch H H' s.heap h') (hok:uD X.prog X.w H' h') (hg:AllBare g')
  (hch:∀b∈ch,(b∈X.ex\/X.s₀.heap.objs.size<=b)/\b≠X.env.locals/\(∀x c,X.env.cells.lookup x=some c->c≠b)/\∀p∈X.pn++pins,p.1≠b) :
  Inv X pins σ H' { s with heap:=h',gens:=g',drawn:=d',toks:=t' }:=by
 obtain ⟨m,⟨o,es,ep,ho,r⟩,_⟩:=id I.loc;obtain ⟨sl,hL⟩:=u.any ho I.free λz=>(hch _ z).2.1 rfl
 exact I.step (ch:=ch) hch (λb o hL hb hc e n=>u.keep b o e n (λz=>(aE.mp (I.stkSub b z)).elim hL hb) hc) (λb o _ _ hc e n=>u.any e n hc) (λb o hc e n=>u.free b o e n hc) (λb o hc e=>u.there b o e hc) u.tups u.frzs u.tbls (λm' hm=>by
  obtain ⟨o',es',ep',ho',r'⟩:=hm;rw[ho] at ho';cases ho';exact ⟨_,es',ep',hL,r'⟩) hok hg
theorem Inv.turned (I:Inv X pins σ H s) (k:∀b o,b≠it->s.heap.get? b=some o->h'.get? b=some o) (hn:H it=none) (hL:it≠X.env.locals)
  (h1:it∈X.ex\/X.s₀.heap.objs.size<=it) (h2:∀x c,X.env.cells.lookup x=some c->c≠it) (h3:∀p∈X.pn++pins,p.1≠it):Inv X pins σ H { s with heap:=h',toks:=t' }:=by
 have nit:∀b u,H b=some u->b≠it:=λb u e z=>by rw[z,hn] at e;cases e
 refine I.step (g':=s.gens) (d':=s.drawn) (ch:=[it]) (λb hb=>?_) (λb o _ _ hc e _=>k b o (λz=>hc (by simp [z])) e) (λb o _ _ hc e _=>⟨o.slots,k b o (λz=>hc (by simp [z])) e⟩) (λ_ _ _ _ n=>n)
  (λb o hc e=>⟨o,k b o (λz=>hc (by simp [z])) e⟩) (λ_ _ e=>e) (λ_ _ _ e=>e) (λb ps e=>⟨#[],by rw[e];simp⟩) (λm hm=>?_) (λb u e=>?_) I.bare
 ·have e:b=it:=by simpa using hb
  subst e;exact ⟨h1,hL,h2,h3⟩
 ·obtain ⟨o,es,ep,ho,r⟩:=hm;exact ⟨o,es,ep,k _ o (Ne.symm hL) ho,r⟩
 ·refine (I.hok b u e).stay (λc v hc q=>k c v ?_ q) (λ_ q=>q) λ_ _ q=>q
  rcases hc with z | z
  ·rw[z];exact nit b u e
  ·exact nit c _ z
theorem Inv.tok (I:Inv X pins σ H s) (t:Nat):Inv X pins σ H { s with toks:=t }:=I.un (h':=s.heap) (t':=t) Un.refl I.hok
theorem Inv.kept (I:Inv X pins σ H s) (k:∀b u,s.heap.get? b=some u->h'.get? b=some u):Inv X pins σ H { s with heap:=h',toks:=t' }:=I.un (Un.kept k) (I.hok.kept k)
theorem Inv.laid {a:Addr} (I:Inv X pins σ H s) (k:∀b u,s.heap.get? b=some u->h'.get? b=some u) (hp:s.heap.objs.size<=a) (new:fQ X.prog X.w (upd H a o) h' a o) :
  Inv X pins σ (upd H a o) { s with heap:=h',toks:=t' }:=I.un (Un.laid k hp (I.hok.fresh hp)) (I.hok.laid k hp new)
theorem Inv.write (I:Inv X pins σ H s) (mu:LU (H x)) (he:e=x\/H e=some (.own x)) (k:∀b u,b≠e->s.heap.get? b=some u->h'.get? b=some u) (heo:∃u,h'.get? e=some u)
  (new:fQ X.prog X.w (upd H x o) h' x o):Inv X pins σ (upd H x o) { s with heap:=h',toks:=t' }:=I.un (Un.write mu he k heo) (I.hok.write mu he k heo new)
theorem Inv.pins_of (I:Inv X pins σ H s) (h:∀p∈pins',s.heap.get? p.1=some p.2/\H p.1=none/\p.1≠X.env.locals/\p.1∉X.fs/\∀v,p.2.data≠.cell v):Inv X pins' σ H s :=
 ⟨I.ok,I.os,I.bare,I.base,I.loc,I.cell,I.free,I.freeC,λp hp=>(ax.mp hp).elim (λz=>I.pin p (mQ _ z)) (h p),I.hok,I.len⟩
theorem A7 {N:List Str} (hN:N.Nodup) {i j:Nat} (a:N[i]?=some x) (b:N[j]?=some x):i=j:=by
 obtain ⟨h1,e1⟩:=aA.mp a;obtain ⟨h2,e2⟩:=aA.mp b;exact (List.getElem_inj hN).mp (e1.trans e2.symm)
theorem xF {M:Model} {A:Around} {E:Value->Shared->Prop} {i:Nat} {x:Str} {v:V} {u:Value} {Q:Unit->Shared->Prop} (I:Inv X pins σ H s) (hN:X.N.Nodup) (hi:X.N[i]?=some x) (hx:Loc X.env.scope x) (r:RelV v u)
  (h:∀s',Inv X pins (σ.set i (some v)) H s'->(∃a,Heap.SameBut a s.heap s'.heap/\(a=X.env.locals\/X.env.cells.lookup x=some a))->Q () s') (hf:X.fn x=true\/X.env.scope.names.lookup x=some .local:=by first | exact .inl rfl | exact .inr rfl | assumption):wpAny M A (storeName X.env x u) Q E s:=by
 obtain ⟨m,hn,hl⟩:=id I.loc;have hcls:(X.env.scope.kind == .class || (X.env.scope.kind == .module && X.env.locals != X.env.globals))=false:=by rw[I.ok.kind];rfl
 have hiσ:i < σ.length:=by rw[I.len];exact (aA.mp hi).1
 have cne:=I.cne
 have tracked:∀{a:Addr} {h':Heap},(∃o,s.heap.get? a=some o/\H a=none)->Heap.SameBut a s.heap h'->uD X.prog X.w H h':=λ{a h'} ha hs b ob e=>by
  obtain ⟨_,_,hfree⟩:=ha;refine (I.hok b ob e).stay (λc w' hc q=>(hs.2 c ?_).trans q) (λ_ q=>q) λ_ _ q=>q
  rintro rfl;rcases hc with rfl | hc
  ·rw[hfree] at e;cases e
  ·rw[hfree] at hc;cases hc
 rcases hx with hk | hk
 ·refine wpAny_storeName_local hk hn (λh' hn' hs=>?_) hcls;obtain ⟨oL,_,_,hoL,_⟩:=id hn;refine h _ ⟨I.ok,I.os,I.bare,⟨λb o e n hb hx=>?_,λb o e n hb hx=>?_,I.base.free,λb o e hx=>?_,I.base.tups,I.base.frzs,I.base.tbls⟩,⟨_,hn',λj y v' e1 e2 e3=>?_⟩,λy c e=>?_,I.free,I.freeC,λp hp=>?_,tracked ⟨oL,hoL,I.free⟩ hs,by simpa using I.len⟩ ⟨_,hs,.inl rfl⟩
  ·exact (hs.2 b (cm (bf (Heap.lt_size e) I.ok.above))).trans (I.base.keep b o e n hb hx)
  ·obtain ⟨sl,e1⟩:=I.base.slot b o e n hb hx;exact ⟨sl,(hs.2 b (cm (bf (Heap.lt_size e) I.ok.above))).trans e1⟩
  ·obtain ⟨o',e1⟩:=I.base.there b o e hx;exact ⟨o',(hs.2 b (cm (bf (Heap.lt_size e) I.ok.above))).trans e1⟩
  ·by_cases hj:j=i
   ·subst hj;rw[hi] at e1;cases e1;rw[List.getElem?_set_self hiσ] at e2;cases e2;exact ⟨u,r,.inl ⟨hk,by simp⟩⟩
   ·rw[List.getElem?_set_ne (Ne.symm hj)] at e2;obtain ⟨u',r',q⟩:=hl j y v' e1 e2 e3;refine ⟨u',r',?_⟩;rcases q with ⟨k,e⟩ | ⟨k,c,e,z⟩
    ·refine .inl ⟨k,?_⟩;have:y≠x:=λe=>hj (A7 hN e1 (e ▸ hi))
     simp [this,e]
    ·exact .inr ⟨k,c,e,z.sameBut hs (cne y c e)⟩
  ·obtain ⟨w',z⟩:=I.cell y c e;exact ⟨w',z.sameBut hs (cne y c e)⟩
  ·obtain ⟨e,n,ne,nf,d⟩:=I.pin p hp;exact ⟨(hs.2 p.1 ne).trans e,n,ne,nf,d⟩
 ·have hfn:X.fn x=true:=by
   rcases hf with z | z
   ·exact z
   ·rw[z] at hk;cases hk
  obtain ⟨c,hc⟩:=I.ok.has x (.inl hk);obtain ⟨w',z⟩:=I.cell x c hc;refine wpAny_storeName_cell I.ok.kind hk hc z (λh' hc' hs=>?_);obtain ⟨oc,hoc,hocd⟩:=id z;refine h { s with heap:=h' } ⟨I.ok,I.os,I.bare,⟨λb o e n hb hx=>?_,λb o e n hb hx=>?_,I.base.free,λb o e hx=>?_,I.base.tups,I.base.frzs,I.base.tbls⟩,⟨m,hn.sameBut hs (Ne.symm (cne x c hc)),λj y v' e1 e2 e3=>?_⟩,λy c' e=>?_,I.free,I.freeC,λp hp=>?_,tracked ⟨oc,hoc,I.freeC x c hc⟩ hs,by simpa using I.len⟩ ⟨c,hs,.inr hc⟩
  ·exact (hs.2 b (cm (bf (Heap.lt_size e) (I.ok.cab x c hfn hc)))).trans (I.base.keep b o e n hb hx)
  ·obtain ⟨sl,e1⟩:=I.base.slot b o e n hb hx;exact ⟨sl,(hs.2 b (cm (bf (Heap.lt_size e) (I.ok.cab x c hfn hc)))).trans e1⟩
  ·obtain ⟨o',e1⟩:=I.base.there b o e hx;exact ⟨o',(hs.2 b (cm (bf (Heap.lt_size e) (I.ok.cab x c hfn hc)))).trans e1⟩
  ·by_cases hj:j=i
   ·subst hj;rw[hi] at e1;cases e1;rw[List.getElem?_set_self hiσ] at e2;cases e2;exact ⟨u,r,.inr ⟨.inl hk,c,hc,hc'⟩⟩
   ·rw[List.getElem?_set_ne (Ne.symm hj)] at e2;obtain ⟨u',r',q⟩:=hl j y v' e1 e2 e3;refine ⟨u',r',?_⟩;rcases q with q | ⟨k,c',e,z'⟩
    ·exact .inl q
    ·refine .inr ⟨k,c',e,z'.sameBut hs ?_⟩;rintro rfl;exact hj (A7 hN e1 (I.ok.inj _ _ _ e hc ▸ hi))
  ·by_cases hcc:c'=c
   ·subst hcc;exact ⟨_,hc'⟩
   ·obtain ⟨w2,z2⟩:=I.cell y c' e;exact ⟨w2,z2.sameBut hs hcc⟩
  ·obtain ⟨e,n,ne,nf,d⟩:=I.pin p hp;refine ⟨(hs.2 p.1 ?_).trans e,n,ne,nf,d⟩;intro q;rw[q,hoc] at e;have q':oc=p.2:=bQ e;exact d w' (by rw[<- q'];exact hocd)
theorem qi {M:Model} {A:Around} {E:Value->Shared->Prop} {i:Nat} {x:Str} {v:V} {u:Value} {Q:Unit->Shared->Prop} (I:Inv X pins σ H s) (hN:X.N.Nodup) (hi:X.N[i]?=some x) (hx:Loc X.env.scope x) (r:RelV v u)
  (h:∀s',Inv X pins (σ.set i (some v)) H s'->Q () s') (hf:X.fn x=true\/X.env.scope.names.lookup x=some .local:=by first | exact .inl rfl | exact .inr rfl | assumption):wpAny M A (storeName X.env x u) Q E s :=
 xF I hN hi hx r (λs' I' _=>h s' I') hf
theorem Inv.call' (I:Inv X pins σ H s) (ho:s'.os=s.os) (u:Un (Ek X.stack) ch H H' s.heap s'.heap) (hok:uD X.prog X.w H' s'.heap) (hg:AllBare s'.gens)
  (hch:∀b∈ch,(b∈X.ex\/X.s₀.heap.objs.size<=b)/\b≠X.env.locals/\(∀x c,X.env.cells.lookup x=some c->c≠b)/\∀p∈X.pn++pins,p.1≠b):Inv X pins σ H' s':=by
 obtain ⟨h',g',d',t',o'⟩:=s';have e:o'=s.os:=ho;subst e;exact I.call (g':=g') (t':=t') (d':=d') u hok hg hch
end
abbrev XK:=Value->Option Addr->Hp->Prop
abbrev St:=List (Option V)
abbrev VK:=V->Hp->Prop
abbrev TE:=St->Hp->VK->Prop
abbrev TT:=St->Hp->(Bool->Hp->Prop)->Prop
abbrev TA:=St->Hp->(List V->Hp->Prop)->Prop
structure Ends where
 nx:St->Hp->Prop
 rt:VK
 bk:St->Hp->Prop:=λ_ _=>False
 ct:St->Hp->Prop:=λ_ _=>False
abbrev TS:=Ends->St->Hp->Prop
def EP (X:Cx) (pins:List (Addr×Obj)) (σ:St) (Q:VK) (u:Value) (s':Shared):Prop:=∃v H',Inv X pins σ H' s'/\RelV v u/\Q v H'
def TP (X:Cx) (pins:List (Addr×Obj)) (σ:St) (Q:Bool->Hp->Prop) (b:Bool) (s':Shared):Prop:=∃H',Inv X pins σ H' s'/\Q b H'
def AP (X:Cx) (pins:List (Addr×Obj)) (σ:St) (Q:List V->Hp->Prop) (us:List Value) (s':Shared):Prop:=∃vs H',Inv X pins σ H' s'/\cf vs us/\Q vs H'
def SP (X:Cx) (pins:List (Addr×Obj)) (D:Ends) (f:Flow) (s':Shared):Prop :=
 match f with
 | .next=>∃σ' H',Inv X pins σ' H' s'/\D.nx σ' H'
 | .brk=>∃σ' H',Inv X pins σ' H' s'/\D.bk σ' H'
 | .cont=>∃σ' H',Inv X pins σ' H' s'/\D.ct σ' H'
 | .ret u=>∃v σ' H',Inv X pins σ' H' s'/\RelV v u/\D.rt v H'
def PE (X:Cx) (e:Expr) (t:TE):Prop :=
 ∀(pins:List (Addr×Obj)) (s:Shared) (σ:St) (H:Hp) (Q:VK),Inv X pins σ H s->t σ H Q->wpAny (model X.prog X.w) X.A (eval e X.env) (EP X pins σ Q) X.xe s
def PT (X:Cx) (e:Expr) (t:TT):Prop :=
 ∀(pins:List (Addr×Obj)) (s:Shared) (σ:St) (H:Hp) (Q:Bool->Hp->Prop),Inv X pins σ H s->t σ H Q->wpAny (model X.prog X.w) X.A (isTrue e X.env (eval e X.env)) (TP X pins σ Q) X.xe s
def PW (X:Cx) (e:Expr) (t:TT):Prop :=
 ∀(whole:Sem Value) (pins:List (Addr×Obj)) (s:Shared) (σ:St) (H:Hp) (Q:Bool->Hp->Prop),Inv X pins σ H s->t σ H Q->wpAny (model X.prog X.w) X.A (isTrue e X.env whole) (TP X pins σ Q) X.xe s
theorem PW.pt (h:PW X e t):PT X e t:=h _
def PA (X:Cx) (es:List Expr) (t:TA):Prop :=
 ∀(pos:Pos) (pins:List (Addr×Obj)) (s:Shared) (σ:St) (H:Hp) (Q:List V->Hp->Prop),Inv X pins σ H s->t σ H Q->wpAny (model X.prog X.w) X.A (spliced (backTo pos (starEach es X.env))) (AP X pins σ Q) X.xe s
def PS (X:Cx) (st:Stmt) (t:TS):Prop :=
 ∀(pins:List (Addr×Obj)) (s:Shared) (σ:St) (H:Hp) (D:Ends),Inv X pins σ H s->t D σ H->wpAny (model X.prog X.w) X.A (exec st X.env) (SP X pins D) X.xe s
def Cw (X:Cx) (st:List Stmt) (t:TS):Prop :=
 ∀(pins:List (Addr×Obj)) (s:Shared) (σ:St) (H:Hp) (D:Ends),Inv X pins σ H s->t D σ H->wpAny (model X.prog X.w) X.A (execs st X.env) (SP X pins D) X.xe s
theorem eJ {t:Sem α} {Q Q':α->Shared->Prop} (h:wpAny M A t Q E s) (hQ:∀a s,Q a s->Q' a s):wpAny M A t Q' E s:=wpAny_mono h hQ λ_ _ x=>x
section
variable {X:Cx}
def Je (i:Nat):TE:=λσ H Q=>∃v,σ[i]?=some (some v)/\Q v H
def tC (v:V):TE:=λ_ H Q=>Q v H
theorem JL {i:Nat} {x:Str} {pos:Pos} (hN:X.N[i]?=some x) (hv:Md X.env.scope x) (hd:(x == ("__debug__":Str))=false:=by decide) (hcd:(x == ("__classdict__":Str))=false:=by decide):PE X (.Name x pos) (Je i):=by
 intro pins s σ H Q I h;obtain ⟨v,e,h⟩:=h;obtain ⟨m,hn,hl⟩:=I.loc;obtain ⟨u,r,l⟩:=hl i x v hN e hv;have fin:EP X pins σ Q u s:=⟨v,H,I,r,h⟩;rcases l with ⟨hk,hm⟩ | ⟨hk,c,hc,hcell⟩
 ·exact wpAny_Name (wpAny_loadName_local I.ok.kind hk hn hm fin) hd
 ·rcases hk with hk | hk
  ·exact wpAny_Name (wpAny_loadName_cell I.ok.kind hk hc hcell fin) hd
  ·exact wpAny_Name (wpAny_loadName_free I.ok.kind hk hc hcell fin hcd) hd
theorem ak:PE X (.Constant (.int i) j pos) (tC (.int i)):=λ_ _ _ H _ I h=>wpAny_Constant_int ⟨.int i,H,I.tok _,⟨_,rfl⟩,h⟩
theorem jQ:PE X (.Constant (.bool b) j pos) (tC (.bl b)):=λ_ _ _ H _ I h=>Constant_bool ⟨.bl b,H,I,rfl,h⟩
theorem zB:PE X (.Constant .none j pos) (tC .non):=λ_ _ _ H _ I h=>Constant_none ⟨.non,H,I,rfl,h⟩
def Gl (X:Cx) (x:Str):Prop:=X.env.kindOf x=some .globalImplicit
theorem zU {E:Value->Shared->Prop} {pins:List (Addr×Obj)} {s:Shared} {σ:St} {H:Hp} {x:Str} {u:Value} {pos:Pos} {Q:Value->Shared->Prop} (I:Inv X pins σ H s) (hg:Gl X x) (hm:X.mg x=some u) (h:Q u s)
  (hd:(x == ("__debug__":Str))=false:=by decide):wpAny (model X.prog X.w) X.A (eval (.Name x pos) X.env) Q E s :=
 Calls.Name_function_global I.ok.kind hg (Calls.loadGlobal_global (by rw[I.ok.glob];exact I.mod.glob.keeps I.bk) hm h) hd
theorem ib {E:Value->Shared->Prop} {pins:List (Addr×Obj)} {s:Shared} {σ:St} {H:Hp} {x:Str} {u:Value} {pos:Pos} {Q:Value->Shared->Prop} (I:Inv X pins σ H s) (hg:Gl X x) (hm:X.mg x=none) (hv:bootBuiltins x=some u) (h:Q u s)
  (hn:x≠"__name__":=by decide) (hd:(x == ("__debug__":Str))=false:=by decide):wpAny (model X.prog X.w) X.A (eval (.Name x pos) X.env) Q E s:=by
 obtain ⟨mb,h1,h2⟩:=I.mod.blt;exact Calls.Name_function_global I.ok.kind hg (Calls.loadGlobal_builtin (by rw[I.ok.glob];exact I.mod.glob.keeps I.bk) hm (by rw[I.ok.blt];exact h1.keeps I.bk) ((h2 x hn).trans hv) h) hd
theorem ot {x:Str} {v:V} {u:Value} {pos:Pos} (hg:Gl X x) (hm:X.mg x=some u) (r:RelV v u) (hd:(x == ("__debug__":Str))=false:=by decide):PE X (.Name x pos) (tC v) :=
 λ_ _ _ H _ I h=>zU I hg hm ⟨v,H,I,r,h⟩ hd
theorem CY {x:Str} {v:V} {u:Value} {pos:Pos} (hg:Gl X x) (hm:X.mg x=none) (hv:bootBuiltins x=some u) (r:RelV v u) (hn:x≠"__name__":=by decide) (hd:(x == ("__debug__":Str))=false:=by decide):PE X (.Name x pos) (tC v) :=
 λ_ _ _ H _ I h=>ib I hg hm hv ⟨v,H,I,r,h⟩ hn hd
variable {a b:Expr} {ta tb:TE} {pos:Pos}
def tB (t:TE):TT:=λσ H Q=>t σ H λx H1=>∃c,x=.bl c/\Q c H1
theorem gi {e:Expr} {t:TE} (h:PE X e t) (he:∀whole,isTrue e X.env whole=(do let v <- whole;standAt e.pos;holding [v] (truthy v)):=by intro _;rfl):PT X e (tB t):=by
 intro pins s σ H Q I hw;refine isTrue_plain (eJ (h pins s σ H _ I hw) λv s1 ⟨x,H1,I1,r1,q1⟩=>?_) (he _);obtain ⟨d,rfl,q⟩:=q1;cases r1;exact wpAny_truthy_bool ⟨H1,I1,q⟩
variable {tA tB':TT} {rest:List Expr}
def KN (t u:TT):TT:=λσ H Q=>t σ H λc H1=>if c=true then u σ H1 Q else Q false H1
def tOr (t u:TT):TT:=λσ H Q=>t σ H λc H1=>if c=true then Q true H1 else u σ H1 Q
def KH (t:TT):TT:=λσ H Q=>t σ H λc H1=>Q (!c) H1
theorem jO (ha:PT X a tA):PW X (.BoolOp .And [a] pos) tA:=by
 intro wh pins s σ H Q I h;refine isTrue_and (eJ (ha pins s σ H Q I h) λc s1 e=>?_);cases c with
 | true=>exact isTrue_and_nil e
 | false=>exact e
theorem gW (ha:PT X a tA):PW X (.BoolOp .Or [a] pos) tA:=by
 intro wh pins s σ H Q I h;refine isTrue_or (eJ (ha pins s σ H Q I h) λc s1 e=>?_);cases c with
 | false=>exact isTrue_or_nil e
 | true=>exact e
theorem iU (ha:PT X a tA) (hb:PW X (.BoolOp .And (b :: rest) pos) tB'):PW X (.BoolOp .And (a :: b :: rest) pos) (KN tA tB'):=by
 intro wh pins s σ H Q I h;refine isTrue_and (eJ (ha pins s σ H _ I h) λc s1 ⟨H1,I1,q1⟩=>?_);cases c with
 | true=>exact hb wh pins s1 σ H1 Q I1 q1
 | false=>exact ⟨H1,I1,q1⟩
theorem jN (ha:PT X a tA) (hb:PW X (.BoolOp .Or (b :: rest) pos) tB'):PW X (.BoolOp .Or (a :: b :: rest) pos) (tOr tA tB'):=by
 intro wh pins s σ H Q I h;refine isTrue_or (eJ (ha pins s σ H _ I h) λc s1 ⟨H1,I1,q1⟩=>?_);cases c with
 | true=>exact ⟨H1,I1,q1⟩
 | false=>exact hb wh pins s1 σ H1 Q I1 q1
theorem iV (ha:PT X a tA):PT X (.UnaryOp .Not a pos) (KH tA):=by
 intro pins s σ H Q I h;exact isTrue_not (ha pins s σ H (λc H1=>Q (!c) H1) I h)
def Iu (ta tb:TE):TE:=λσ H Q=>ta σ H λx H1=>∃c,x=.bl c/\if c=true then tb σ H1 Q else Q (.bl false) H1
def Im (ta:TE):TE:=λσ H Q=>ta σ H λx H1=>∃c,x=.bl c/\Q (.bl (!c)) H1
theorem zA (h:PE X a t):PE X (.BoolOp op [a] pos) t:=λpins s σ H Q I hw=>BoolOp_one (h pins s σ H Q I hw)
theorem zD (ha:PE X a ta) (hb:PE X (.BoolOp .And (b :: rest) pos) tb):PE X (.BoolOp .And (a :: b :: rest) pos) (Iu ta tb):=by
 intro pins s σ H Q I h;refine BoolOp_and (eJ (ha pins s σ H _ I h) λv s1 ⟨x,H1,I1,r1,q1⟩=>?_);obtain ⟨c,rfl,q1⟩:=q1;cases r1;refine wpAny_truthy_bool ?_;cases c with
 | true=>exact hb pins s1 σ H1 Q I1 q1
 | false=>exact ⟨.bl false,H1,I1,rfl,q1⟩
theorem JM (ha:PE X a ta):PE X (.UnaryOp .Not a pos) (Im ta):=by
 intro pins s σ H Q I h;refine UnaryOp_ (eJ (ha pins s σ H _ I h) λv s1 ⟨x,H1,I1,r1,q1⟩=>?_);obtain ⟨c,rfl,q1⟩:=q1;cases r1;exact not_of (wpAny_truthy_bool ⟨.bl (!c),H1,I1,rfl,q1⟩)
def tIf (t:TT) (ta tb:TE):TE:=λσ H Q=>t σ H λc H1=>if c=true then ta σ H1 Q else tb σ H1 Q
theorem EV (hc:PT X c tA) (ha:PE X a ta) (hb:PE X b tb):PE X (.IfExp c a b pos) (tIf tA ta tb):=by
 intro pins s σ H Q I h;refine wpAny_IfExp (eJ (hc pins s σ H _ I h) λd s1 ⟨H1,I1,q1⟩=>?_);cases d with
 | true=>exact ha pins s1 σ H1 Q I1 q1
 | false=>exact hb pins s1 σ H1 Q I1 q1
end
def bD (K:FG9) (H:Hp) (a:Addr) (xs:List V):Prop :=
 Rd H a (.lst xs) \/
  ∃(o:Obj) (its:Array Value) (n:Nat),K.lookup a=some o/\o.cls=.type "list"/\o.dict=none/\o.data=.seq its n/\its.size<=sizeLine/\cf xs its.toList
def jG (K:FG9) (H:Hp) (a:Addr) (xs:List V):Prop :=
 Rd H a (.tup xs) \/
  ∃(o:Obj) (its:Array Value) (n:Nat),K.lookup a=some o/\o.cls=.type "tuple"/\o.data=.seq its n/\its.size<=sizeLine/\cf xs its.toList
def Mc:Value->Option V
 | .none=>some .non
 | .bool b=>some (.bl b)
 | .int i _=>some (.int i)
 | .str x _=>some (.str x)
 | .bytes b _=>some (.byt b)
 | .float b _=>some (.flt b)
 | .ref a=>some (.ref a)
 | .type n=>some (.ty n)
 | _=>none
theorem RelV.abs (r:RelV x u):Mc u=some x:=by
 cases x with
 | non=>cases r;rfl
 | bl _=>cases r;rfl
 | int _=>obtain ⟨t,rfl⟩:=r;rfl
 | str _=>obtain ⟨t,rfl⟩:=r;rfl
 | byt _=>obtain ⟨t,rfl⟩:=r;rfl
 | flt _=>obtain ⟨t,rfl⟩:=r;rfl
 | ref _=>cases r;rfl
 | ty _=>cases r;rfl
theorem RelV.inj (r:RelV x u) (q:RelV y u):x=y:=bQ (r.abs.symm.trans q.abs)
theorem cf.inj:∀{xs ys:List V} {us:List Value},cf xs us->cf ys us->xs=ys
 | _,_,_,.nil,.nil=>rfl
 | _,_,_,.cons r t,.cons r' t'=>by rw[r.inj r',cf.inj t t']
section
variable {X:Cx} {pins:List (Addr×Obj)} {σ:St} {H:Hp} {s:Shared} {a:Addr} {xs ys:List V}
theorem bD.of {K:FG9} (h:H a=some (.lst xs)):bD K H a xs:=.inl (.inl h)
theorem jG.of {K:FG9} (h:H a=some (.tup xs)):jG K H a xs:=.inl (.inl h)
theorem Inv.list (I:Inv X pins σ H s) (h:bD X.K H a xs):∃its:List Value,cf xs its/\PlainL s.heap a its.toArray/\xs.length<=sizeLine:=by
 rcases h with h | ⟨o,its,n,hk,hc,hd,hs,hz,r⟩
 ·obtain ⟨z,its,n,r,e⟩:=h.ok I.hok;exact ⟨its,r,⟨_,n,e,rfl,rfl,rfl⟩,z⟩
 ·refine ⟨its.toList,r,⟨o,n,I.kIn a o hk,hc,hd,by simpa using hs⟩,?_⟩;have e:=r.length;simp only[Array.length_toList] at e
  lia
theorem Inv.tuple (I:Inv X pins σ H s) (h:jG X.K H a xs):∃its:List Value,cf xs its/\IsTup s.heap a its.toArray/\xs.length<=sizeLine:=by
 rcases h with h | ⟨o,its,n,hk,hc,hs,hz,r⟩
 ·obtain ⟨z,its,r,p⟩:=h.ok I.hok;exact ⟨its,r,p,z⟩
 ·refine ⟨its.toList,r,⟨o,I.kIn a o hk,hc,n,by simpa using hs⟩,?_⟩;have e:=r.length;simp only[Array.length_toList] at e
  lia
theorem Inv.list_inj (I:Inv X pins σ H s) (h:bD X.K H a xs) (h':bD X.K H a ys):xs=ys:=by
 obtain ⟨its,r,⟨o,n,e,_,_,d⟩,_⟩:=I.list h;obtain ⟨its',r',⟨o',n',e',_,_,d'⟩,_⟩:=I.list h';rw[e] at e';cases e';rw[d] at d';injection d' with d1 _
 have:its=its':=by simpa using congrArg Array.toList d1
 subst this;exact r.inj r'
theorem Inv.tuple_inj (I:Inv X pins σ H s) (h:jG X.K H a xs) (h':jG X.K H a ys):xs=ys:=by
 obtain ⟨its,r,⟨o,e,_,n,d⟩,_⟩:=I.tuple h;obtain ⟨its',r',⟨o',e',_,n',d'⟩,_⟩:=I.tuple h';rw[e] at e';cases e';rw[d] at d';injection d' with d1 _
 have:its=its':=by simpa using congrArg Array.toList d1
 subst this;exact r.inj r'
end
abbrev Cx.wish (X:Cx) (E:Value->Shared->Prop):Cx:={ X with xe:=E }
abbrev Cx.nox (X:Cx):Cx:=X.wish λ_ _=>False
theorem Cx.Ok.wish {X:Cx} (ok:X.Ok) (E:Value->Shared->Prop):(X.wish E).Ok :=
 ⟨ok.mod,ok.kind,ok.glob,ok.blt,ok.above,ok.inj,ok.has,ok.cab,ok.hd,ok.frames,ok.stk,ok.exf,ok.bs,ok.bsz,ok.noex,ok.exfs,ok.funs,ok.frf⟩
theorem Cx.Ok.unwish {X:Cx} (ok:(X.wish E).Ok):X.Ok :=
 ⟨ok.mod,ok.kind,ok.glob,ok.blt,ok.above,ok.inj,ok.has,ok.cab,ok.hd,ok.frames,ok.stk,ok.exf,ok.bs,ok.bsz,ok.noex,ok.exfs,ok.funs,ok.frf⟩
section
variable {X:Cx} {pins:List (Addr×Obj)} {σ:St} {H:Hp} {s:Shared} {E:Value->Shared->Prop}
theorem Inv.wish (I:Inv X pins σ H s) (E:Value->Shared->Prop):Inv (X.wish E) pins σ H s:=⟨I.ok.wish E,I.os,I.bare,I.base,I.loc,I.cell,I.free,I.freeC,I.pin,I.hok,I.len⟩
theorem Inv.unwish (I:Inv (X.wish E) pins σ H s):Inv X pins σ H s:=⟨I.ok.unwish,I.os,I.bare,I.base,I.loc,I.cell,I.free,I.freeC,I.pin,I.hok,I.len⟩
theorem SP.unwish (h:SP (X.wish E) pins D f s'):SP X pins D f s':=by
 cases f with
 | next=>obtain ⟨σ',H',I,q⟩:=h;exact ⟨σ',H',I.unwish,q⟩
 | brk=>obtain ⟨σ',H',I,q⟩:=h;exact ⟨σ',H',I.unwish,q⟩
 | cont=>obtain ⟨σ',H',I,q⟩:=h;exact ⟨σ',H',I.unwish,q⟩
 | ret u=>obtain ⟨v,σ',H',I,r,q⟩:=h;exact ⟨v,σ',H',I.unwish,r,q⟩
theorem Cw.nox {st:List Stmt} (h:Cw X.nox st t):Cw X st t:=λpins s σ H D I hw =>
 wpAny_mono (h pins s σ H D (I.wish _) hw) (λ_ _ q=>q.unwish) λ_ _ z=>False.elim z
end
section
variable {X:Cx} {st:Stmt} {rest:List Stmt} {t u:TS} {e:Expr} {te:TE} {pos:Pos}
def Io:TS:=λD σ H=>D.nx σ H
def KC (t u:TS):TS:=λD σ H=>t { D with nx:=u D } σ H
theorem bL:Cw X [] Io:=λ_ _ σ H _ I h=>wpAny_execs_nil ⟨σ,H,I,h⟩
theorem au (h1:PS X st t) (h2:Cw X rest u):Cw X (st :: rest) (KC t u):=by
 intro pins s σ H D I h;refine wpAny_execs_cons (eJ (h1 pins s σ H { D with nx:=u D } I h) λf s1 q=>?_);cases f with
 | next =>
  obtain ⟨σ',H',I',q⟩:=q;exact h2 pins s1 σ' H' D I' q
 | ret v=>exact q
 | brk=>exact q
 | cont=>exact q
theorem az (h1:PS X st t):Cw X [st] t:=by
 intro pins s σ H D I h;refine wpAny_execs_cons (eJ (h1 pins s σ H D I h) λf s1 q=>?_);cases f with
 | next=>exact wpAny_execs_nil q
 | ret v=>exact q
 | brk=>exact q
 | cont=>exact q
theorem Inv.quiet {σ:St} (I:Inv X pins σ H s):interactive X.env=false:=by simp [interactive,I.ok.kind]
def Iq (te:TE):TS:=λD σ H=>te σ H λ_ H1=>D.nx σ H1
theorem iZ (he:PE X e te) (hs:swapsWith e none pos.line X.env=pure false:=by rfl):PS X (.Expr e pos) (Iq te):=by
 intro pins s σ H D I h;exact wpAny_Expr_any (eJ (he pins s σ H _ I h) λv s1 ⟨x,H1,I1,r1,q1⟩=>⟨σ,H1,I1,q1⟩) I.quiet hs
def KD (te:TE):TS:=λD σ H=>te σ H D.rt
theorem aR (he:PE X e te):PS X (.Return (some e) pos) (KD te):=by
 intro pins s σ H D I h;exact wpAny_Return_some (eJ (he pins s σ H _ I h) λv s1 ⟨x,H1,I1,r1,q1⟩=>⟨x,σ,H1,I1,r1,q1⟩)
def KJ (c:TT) (t u:TS):TS:=λD σ H=>c σ H λb H1=>if b=true then t D σ H1 else u D σ H1
theorem cG (hc:PT X c tc) (ha:Cw X a t) (hb:Cw X b u):PS X (.If c a b pos) (KJ tc t u):=by
 intro pins s σ H D I h;refine wpAny_If (eJ (hc pins s σ H _ I h) λd s1 ⟨H1,I1,q1⟩=>?_);cases d with
 | true=>exact ha pins s1 σ H1 D I1 q1
 | false=>exact hb pins s1 σ H1 D I1 q1
end
abbrev TG:=V->St->Hp->(St->Hp->Prop)->Prop
abbrev F0:=List V->St->Hp->(St->Hp->Prop)->Prop
def PG (X:Cx) (target:Expr) (t:TG):Prop :=
 ∀(pins:List (Addr×Obj)) (s:Shared) (σ:St) (H:Hp) (v:V) (u:Value) (Q:St->Hp->Prop),Inv X pins σ H s->RelV v u->t v σ H Q →
  wpAny (model X.prog X.w) X.A (assign target X.env u) (λ_ s'=>∃σ' H',Inv X pins σ' H' s'/\Q σ' H') X.xe s
def Lz (X:Cx) (ts:List Expr) (t:F0):Prop :=
 ∀(pins:List (Addr×Obj)) (s:Shared) (σ:St) (H:Hp) (vs:List V) (us:List Value) (Q:St->Hp->Prop),Inv X pins σ H s->cf vs us->t vs σ H Q →
  wpAny (model X.prog X.w) X.A (assignInOrder ((assignEach ts X.env).map (·.2)) us) (λ_ s'=>∃σ' H',Inv X pins σ' H' s'/\Q σ' H') X.xe s
abbrev Cs:=V->V->V->Hp->(Hp->Prop)->Prop
def Kl (X:Cx) (t:Cs):Prop :=
 ∀(pins:List (Addr×Obj)) (s:Shared) (σ:St) (H:Hp) (o i v:V) (ov iv u:Value) (Q:Hp->Prop),Inv X pins σ H s->RelV o ov->RelV i iv->RelV v u->t o i v H Q →
  wpAny (model X.prog X.w) X.A (setItem ov iv u) (λ_ s'=>∃H',Inv X pins σ H' s'/\Q H') X.xe s
abbrev Ly:=V->V->Hp->VK->Prop
def PIp (X:Cx) (op:Operator) (t:Ly):Prop :=
 ∀(pins:List (Addr×Obj)) (s:Shared) (σ:St) (H:Hp) (x y:V) (v u:Value) (Q:VK),Inv X pins σ H s->RelV x v->RelV y u->t x y H Q →
  wpAny (model X.prog X.w) X.A (inplaceOp op v u) (EP X pins σ Q) X.xe s
section
variable {X:Cx} {pos:Pos}
def De (i:Nat):TG:=λv σ H Q=>Q (σ.set i (some v)) H
theorem aK {i:Nat} {x:Str} (hN:X.N.Nodup) (hi:X.N[i]?=some x:=by exact rfl) (hx:Loc X.env.scope x:=by exact Or.inl rfl) (hf:X.fn x=true\/X.env.scope.names.lookup x=some .local:=by first | exact .inl rfl | exact .inr rfl | assumption):PG X (.Name x pos) (De i):=by
 intro pins s σ H v u Q I r h;exact wpAny_assign_Name (qi I hN hi hx r (λs' I'=>⟨_,H,I',h⟩) hf)
def Lr:F0:=λvs σ H Q=>vs=[]/\Q σ H
def IL (t:TG) (u:F0):F0:=λvs σ H Q=>∃v r,vs=v :: r/\t v σ H λσ' H'=>u r σ' H' Q
theorem jP:Lz X [] Lr:=by
 intro pins s σ H vs us Q I r h;obtain ⟨e,h⟩:=h;subst e;cases r;exact assignInOrder_nil ⟨σ,H,I,h⟩
theorem c4 {e:Expr} {es:List Expr} {t:TG} {u:F0} (h1:PG X e t) (h2:Lz X es u)
  (hs:(assignEach (e :: es) X.env).map (·.2)=assign e X.env :: (assignEach es X.env).map (·.2):=by rfl):Lz X (e :: es) (IL t u):=by
 intro pins s σ H vs us Q I r h;obtain ⟨v,vr,e1,h⟩:=h;subst e1;cases r with
 | cons r rr =>
  rw[hs];refine assignInOrder_cons (eJ (h1 pins s σ H _ _ _ I r h) λ_ s1 ⟨σ1,H1,I1,q1⟩=>?_);exact h2 pins s1 σ1 H1 _ _ Q I1 rr q1
def Kc (K:FG9) (n:Nat) (t:F0):TG:=λv σ H Q=>∃a xs,v=.ref a/\jG K H a xs/\xs.length=n/\t xs σ H Q
theorem zy {es:List Expr} {k:Nat} {t:F0} {n:Nat} (hc:X.calm=true) (h:Lz X es t)
  (hn:(assignEach es X.env).length=n:=by rfl) (hst:(assignEach es X.env).findIdx? (·.1)=none:=by rfl):PG X (.Tuple es k pos) (Kc X.K n t):=by
 intro pins s σ H v u Q I r hw;obtain ⟨a,xs,e1,hq,hl,hw⟩:=hw;subst e1;cases r;obtain ⟨its,rv,ht,hz⟩:=I.tuple hq;refine assign_Tuple_tuple (I.ok.hd hc) ht (by simp [hn,<- hl,rv.length]) hst λh' hx=>?_
 have I1:Inv X pins σ H { s with heap:=h' }:=I.kept (t':=s.toks) λb o e=>hx b o (cm (Heap.lt_size e)) e
 exact h pins _ σ H xs _ Q I1 (by simpa using rv) hw
def Lq (to ti:TE) (t:Cs):TG:=λv σ H Q=>to σ H λo H1=>ti σ H1 λi H2=>t o i v H2 λH3=>Q σ H3
theorem fu {o i : Expr} {to ti : TE} {t : Cs} (ho : PE X o to) (hi : PE X i ti) (hs : Kl X t)
    (ha : ∀ v, assign (.Subscript o i pos) X.env v = (do
      let ov <- holding [v] (eval o X.env)
      let iv <- holding [v, ov] (eval i X.env)
      standAt pos
      holding [v, ov, iv] (setItem ov iv v)
      release [v, ov, iv] []) := by intro _; rfl) : PG X (.Subscript o i pos) (Lq to ti t) := by
  intro pins s σ H v u Q I r h;rw [ha];refine wpAny_bind (wpAny_holding (eJ (ho pins s σ H _ I h) λov s1 ⟨x, H1, I1, r1, q1⟩ => ?_));refine wpAny_bind (wpAny_holding (eJ (hi pins s1 σ H1 _ I1 q1) λiv s2 ⟨y, H2, I2, r2, q2⟩ => ?_));refine wpAny_bind (wpAny_standAt (wpAny_bind (wpAny_holding (eJ (hs pins s2 σ H2 x y v ov iv u _ I2 r1 r2 r q2) λ_ s3 ⟨H3, I3, q3⟩ => ?_))));exact wpAny_release ⟨σ, H3, I3, q3⟩
def F9 (te:TE) (g:TG):TS:=λD σ H=>te σ H λx H1=>g x σ H1 D.nx
theorem eL {tg e:Expr} {te:TE} {g:TG} (he:PE X e te) (hg:PG X tg g) (hs:swapsWithSole [tg] e pos.line X.env=pure false:=by rfl) (hw:swappedStores [tg] e X.env=pure none:=by rfl)
  (h1:(assignEach [tg] X.env).map (·.2)=[assign tg X.env]:=by rfl):PS X (.Assign [tg] e pos) (F9 te g):=by
 intro pins s σ H D I h;refine wpAny_Assign_stores (eJ (he pins s σ H _ I h) λv s1 ⟨x,H1,I1,r1,q1⟩=>?_) hs hw;rw[h1];exact eJ (hg pins s1 σ H1 x v _ I1 r1 q1) λ_ s2 q=>q
theorem aX {i:Nat} {x:Str} {e:Expr} {te:TE} {pos':Pos} (hN:X.N.Nodup) (hi:X.N[i]?=some x) (hx:Loc X.env.scope x) (he:PE X e te) (hs:swapsWith e (some (.Name x pos')) pos.line X.env=pure false:=by rfl) (hf:X.fn x=true\/X.env.scope.names.lookup x=some .local:=by first | exact .inl rfl | exact .inr rfl | assumption) :
  PS X (.Assign [.Name x pos'] e pos) (F9 te (De i)):=by
 intro pins s σ H D I h;refine wpAny_Assign_Name (eJ (he pins s σ H _ I h) λv s1 ⟨y,H1,I1,r1,q1⟩=>?_) hs;exact qi I1 hN hi hx r1 (λs2 I2=>⟨_,H1,I2,q1⟩) hf
def KE (i j:Nat) (ta:TA):TS:=λD σ H=>ta σ H λvs H1=>∃v w,vs=[v,w]/\D.nx ((σ.set i (some v)).set j (some w)) H1
theorem ET {i j:Nat} {x y:Str} {a b:Expr} {ta:TA} {px py pt:Pos} {kt k2 pt2} (hc:X.calm=true) (hN:X.N.Nodup) (hi:X.N[i]?=some x) (hj:X.N[j]?=some y) (hij:i≠j)
  (hx:X.env.scope.names.lookup x=some .local) (hy:X.env.scope.names.lookup y=some .local) (ha:PA X [a,b] ta)
  (hw:swappedStores [.Tuple [.Name x px,.Name y py] kt pt] (.Tuple [a,b] k2 pt2) X.env=pure (some [x,y]))
  (hs:swapsWithSole [.Tuple [.Name x px,.Name y py] kt pt] (.Tuple [a,b] k2 pt2) pos.line X.env=pure false:=by rfl) :
  PS X (.Assign [.Tuple [.Name x px,.Name y py] kt pt] (.Tuple [a,b] k2 pt2) pos) (KE i j ta):=by
 intro pins s σ H D I h;rw[exec_Assign_arm];refine wpAny_bind (wpAny_standAt ?_);rw[hs];refine wpAny_bind (wpAny_pure ?_);rw[if_neg (by decide)];refine wpAny_bind (Tuple_ (eJ (ha _ pins s σ H _ I h) λus s1 ⟨vs,H1,I1,r1,q1⟩=>?_));obtain ⟨v,w,e1,q1⟩:=q1;subst e1
 obtain ⟨u1,u2,rfl,rv,rw'⟩:∃u1 u2,us=[u1,u2]/\RelV v u1/\RelV w u2:=by
  cases r1 with
  | cons p q =>
   cases q with
   | cons p' q' =>
    cases q';exact ⟨_,_,rfl,p,p'⟩
 refine wpAny_newObj_type ?_ (by show 2<=sizeLine;decide);have I2:Inv X pins σ H1 { s1 with heap:=s1.heap.push { cls:=.type "tuple",data:=.seq [u1,u2].toArray } }:=I1.kept (t':=s1.toks) λb o e=>Heap.get?_push_of_some _ e
 rw[hw];refine wpAny_bind (wpAny_pure ?_);show wpAny (model X.prog X.w) X.A (do rule "assign.swapped-stores";let items <- unpackItems (.ref s1.heap.objs.size) 2 none;assignInOrder [λv=>bindName X.env y v,λv=>bindName X.env x v] items.reverse;pure Flow.next) _ _ _
 refine wpAny_bind (wpAny_rule (wpAny_bind (unpackItems_tuple (items:=#[u1,u2]) (I.ok.hd hc) (IsTup.new s1.heap _) λh' hx'=>?_)));have I3:=I2.kept (h':=h') (t':=s1.toks) λb o e=>hx' b o (cm (Heap.lt_size e)) e
 show wpAny _ _ (assignInOrder [λv=>bindName X.env y v,λv=>bindName X.env x v] [u2,u1] >>= λ_=>pure Flow.next) _ _ _
 refine wpAny_bind (assignInOrder_cons (wpAny_bindName (qi I3 hN hj (.inl hy) rw' (λs2 I4=>?_) (.inr hy))));refine assignInOrder_cons (wpAny_bindName (qi I4 hN hi (.inl hx) rv (λs3 I5=>assignInOrder_nil (wpAny_pure ?_)) (.inr hx)));rw[List.set_comm _ _ (Ne.symm hij)] at I5;exact ⟨_,H1,I5,q1⟩
def Ir (to ti te:TE) (tget:V->V->Hp->VK->Prop) (tip:Ly) (tset:Cs):TS:=λD σ H=>to σ H λo H1=>ti σ H1 λi H2=>tget o i H2 λx H3=>te σ H3 λy H4=>tip x y H4 λz H5=>tset o i z H5 λH6=>D.nx σ H6
def LA (X:Cx) (t:V->V->Hp->VK->Prop):Prop :=
 ∀(pins:List (Addr×Obj)) (s:Shared) (σ:St) (H:Hp) (o i:V) (ov iv:Value) (Q:VK),Inv X pins σ H s->RelV o ov->RelV i iv->t o i H Q →
  wpAny (model X.prog X.w) X.A (getItem ov iv) (EP X pins σ Q) X.xe s
theorem Hu {o i e:Expr} {to ti te:TE} {tget:V->V->Hp->VK->Prop} {tip:Ly} {tset:Cs} {op:Operator} {tpos:Pos} (ho:PE X o to) (hi:PE X i ti) (hg:LA X tget) (he:PE X e te) (hp:PIp X op tip) (hs:Kl X tset)
  (ha:∀ov iv new,augStore i ov iv new=(do holding [new,ov,iv] (setItem ov iv new);release [new,ov,iv] [];pure .next):=by intros;rfl):PS X (.AugAssign (.Subscript o i tpos) op e pos) (Ir to ti te tget tip tset):=by
 intro pins s σ H D I h;refine wpAny_AugAssign_SubscriptAny (eJ (ho pins s σ H _ I h) λov s1 ⟨x1,H1,I1,r1,q1⟩=>?_) ha;refine eJ (hi pins s1 σ H1 _ I1 q1) λiv s2 ⟨x2,H2,I2,r2,q2⟩=>?_
 refine eJ (hg pins s2 σ H2 x1 x2 ov iv _ I2 r1 r2 q2) λold s3 ⟨x3,H3,I3,r3,q3⟩=>?_
 refine eJ (he pins s3 σ H3 _ I3 q3) λv s4 ⟨x4,H4,I4,r4,q4⟩=>?_
 refine eJ (hp pins s4 σ H4 x3 x4 old v _ I4 r3 r4 q4) λnew s5 ⟨x5,H5,I5,r5,q5⟩=>?_
 exact eJ (hs pins s5 σ H5 x1 x2 x5 ov iv new _ I5 r1 r2 r5 q5) λ_ s6 ⟨H6,I6,q6⟩=>⟨σ,H6,I6,q6⟩
def ipI (f:Int->Int->Int):Ly:=λx y H Q=>∃i j,x=.int i/\y=.int j/\Q (.int (f i j)) H
theorem J6:PIp X .Add (ipI λi j=>i+j):=by
 intro pins s σ H x y v u Q I r1 r2 h;obtain ⟨i,j,e1,e2,q⟩:=h;subst e1;subst e2;obtain ⟨t,rfl⟩:=r1;obtain ⟨t',rfl⟩:=r2;exact iadd_int ⟨.int _,H,I.tok _,⟨_,rfl⟩,q⟩
end
section
variable {X:Cx} {pos:Pos}
def Ex (c:TT) (tb:TS):TS:=λD σ H=>∃W:Nat->St->Hp->Prop,(∃m,W m σ H)/\∀m σ H,W m σ H →
 c σ H λb H1=>if b=true then ∃N:St->Hp->Prop,(∀σ' H',N σ' H'->∃m',m' < m/\W m' σ' H')/\tb { D with nx:=N,ct:=N,bk:=D.nx } σ H1 else D.nx σ H1
theorem vg (hp:PassesOwn (model X.prog X.w) X.A X.env X.xe) (hc:PT X c tc) (hb:Cw X body tb):PS X (.While c body [] pos) (Ex tc tb):=by
 intro pins s σ H D I h;obtain ⟨W,⟨m0,w0⟩,turn⟩:=h;refine wpAny_While (codeAny_whileLoop (λn s'=>∃σ' H',Inv X pins σ' H' s'/\W n σ' H') ?_ m0 ⟨σ,H,I,w0⟩);rintro n s1 ⟨σ1,H1,I1,w1⟩;refine wpAny_passesOwn hp (eJ (hc pins s1 σ1 H1 _ I1 (turn n σ1 H1 w1)) λb s2 ⟨H2,I2,q2⟩=>?_);cases b with
 | true =>
  obtain ⟨N,hN,q2⟩:=q2;rw[if_pos rfl];refine wpAny_passesOwn hp (eJ (hb pins s2 σ1 H2 _ I2 q2) λf s3 q3=>?_);cases f with
  | next =>
   obtain ⟨σ3,H3,I3,n3⟩:=q3;obtain ⟨m',hm,w3⟩:=hN σ3 H3 n3;exact ⟨m',hm,σ3,H3,I3,w3⟩
  | cont =>
   obtain ⟨σ3,H3,I3,n3⟩:=q3;obtain ⟨m',hm,w3⟩:=hN σ3 H3 n3;exact ⟨m',hm,σ3,H3,I3,w3⟩
  | brk=>exact q3
  | ret v=>exact q3
 | false =>
  rw[if_neg aQ];exact wpAny_execs_nil ⟨σ1,H2,I2,q2⟩
end
structure It where
 go:Nat->Hp->Prop
 yld:Nat->Hp->V->Hp->Prop
 stop:Nat->Hp->Prop
def ig (X:Cx) (pins:List (Addr×Obj)) (H:Hp) (b:Addr):Prop :=
 H b=none/\b≠X.env.locals/\b∉X.fs/\(b∈X.ex\/X.s₀.heap.objs.size<=b)/\(∀x c,X.env.cells.lookup x=some c->c≠b)/\∀p∈X.pn++pins,p.1≠b
theorem Inv.fpOk {σ:St} {b:Addr} (I:Inv X pins σ H s) (hb:s.heap.objs.size<=b) (hn:H' b=none):ig X pins H' b:=by
 refine ⟨hn,DB (bf I.lt hb),I.nofs hb,.inr (aj I.sz hb),λx c e z=>?_,λp hp z=>?_⟩
 ·obtain ⟨v,q⟩:=I.cell x c e;exact absurd (bf q.lt (by rw[z];exact hb)) (dG _)
 ·exact absurd (bf (Heap.lt_size (I.pin p hp).1) (by rw[z];exact hb)) (dG _)
structure Turn (P:Program) (w:World) (K:FG9) (tg:Expr) (J:It) (fp:List Addr) (it:Addr) (tn:Nat->Heap->Prop):Prop where
 mem:it∈fp
 obj:∀i h,tn i h->∀b∈fp,∃o,h.get? b=some o/\∀v,o.data≠.cell v
 keep:∀i h h',tn i h->(∀b∈fp,∀o,h.get? b=some o->h'.get? b=some o)->tn i h'
 item:∀(X:Cx),X.prog=P->X.w=w->X.K=K->X.calm=true->∀(i:Nat) (pins:List (Addr×Obj)) (s:Shared) (σ:St) (H:Hp) (E:Value->Shared->Prop),Inv X pins σ H s->(∀b∈fp,ig X pins H b)->tn i s.heap->J.go i H →
  wpAny (model P w) X.A (pyNext (.ref it)) (λr s1=>∃u,r=some u /\
   wpAny (model P w) X.A (letOwnedTupleGo tg (.ref it) u) (λ_ s2=>∃x H',Inv X pins σ H' s2/\RelV x u/\J.yld i H x H'/\tn (i+1) s2.heap/\∀b∈fp,H' b=none) E s1) E s
 done:∀(X:Cx),X.prog=P->X.w=w->X.K=K->X.calm=true->∀(i:Nat) (pins:List (Addr×Obj)) (s:Shared) (σ:St) (H:Hp) (E:Value->Shared->Prop),Inv X pins σ H s->(∀b∈fp,ig X pins H b)->tn i s.heap->J.stop i H →
  wpAny (model P w) X.A (pyNext (.ref it)) (λr s1=>r=none/\Inv X pins σ H s1) E s
 self:∀(A:Around) (i:Nat) (s:Shared) (Q:Value->Shared->Prop) (E:Value->Shared->Prop),tn i s.heap->Q (.ref it) s->wpAny (model P w) A (pyIter (.ref it)) Q E s
abbrev TI:=St->Hp->(It->Hp->Prop)->Prop
def PIE (X:Cx) (pins:List (Addr×Obj)) (σ:St) (tg:Expr) (R:It->Hp->Prop) (itv:Value) (s2:Shared):Prop :=
 ∃(it:Addr) (fp:List Addr) (tn:Nat->Heap->Prop) (J:It) (H':Hp),itv=.ref it/\Inv X pins σ H' s2/\Turn X.prog X.w X.K tg J fp it tn/\tn 0 s2.heap/\(∀b∈fp,ig X pins H' b)/\R J H'
def PI (X:Cx) (tg iter:Expr) (wi:TI):Prop :=
 ∀(pins:List (Addr×Obj)) (s:Shared) (σ:St) (H:Hp) (R:It->Hp->Prop),Inv X pins σ H s->wi σ H R →
  wpAny (model X.prog X.w) X.A (eval iter X.env) (λv s1=>wpAny (model X.prog X.w) X.A (pyIter v) (PIE X pins σ tg R) X.xe s1) X.xe s
theorem Fq (ho:s.heap.get? it=some o) (hc:o.cls=.type n) (hd:o.data=.fields vs)
  (hn:["enumerate","zip","dict_itemiterator","dict_reverseitemiterator","odict_iterator","itertools.zip_longest","itertools.pairwise"].contains n=false) (hQ:Q () s):wpAny M A (letOwnedTupleGo tg (.ref it) u) Q E s:=by
 unfold letOwnedTupleGo
 cases tg <;> first
  | exact wpAny_pure hQ
  | (cases u <;> first | exact wpAny_pure hQ | (refine wpAny_bind (wpAny_load ho ?_);rw[hc,hd];show wpAny M A (if (["enumerate","zip","dict_itemiterator","dict_reverseitemiterator","odict_iterator","itertools.zip_longest","itertools.pairwise"].contains n && vs[0]? == some (rawInt _))=true then _ else _) Q E s;rw[if_neg (by intro h;rw[hn,Bool.false_and] at h;cases h)];exact wpAny_pure hQ))
def Ie (K:FG9) (a:Addr):It :=
 ⟨λi H=>∃xs x,bD K H a xs/\xs[i]?=some x,λi H x H'=>H'=H/\∀xs,bD K H a xs->xs[i]?=some x,λi H=>∃xs,bD K H a xs/\xs.length<=i⟩
def Ks (K:FG9) (a:Addr):It :=
 ⟨λi H=>∃xs x,jG K H a xs/\xs[i]?=some x,λi H x H'=>H'=H/\∀xs,jG K H a xs->xs[i]?=some x,λi H=>∃xs,jG K H a xs/\xs.length<=i⟩
def BC (lo:Int) (n:Nat):It:=⟨λi _=>i < n,λi H x H'=>H'=H/\x=.int (lo+i),λi _=>n<=i⟩
theorem DF {P:Program} {w:World} {K:FG9} {tg:Expr} (a it:Addr):Turn P w K tg (Ie K a) [it] it (λi h=>h.IsListIter it a i) where
 mem:=by simp
 obj:=λi h st b hb=>by
  have e:b=it:=by simpa using hb
  subst e;obtain ⟨o,e,c,d⟩:=st;exact ⟨o,e,λv z=>by rw[d] at z;cases z⟩
 keep:=λi h h' st k=>st.at λo e=>k it (by simp) o e
 item:=by
  intro X hP hw hK hc i pins s σ H E I hf st hg;subst hP hw hK;obtain ⟨xs,x,hq,hx⟩:=hg;obtain ⟨its,rv,p,hz⟩:=I.list hq;obtain ⟨u,hu,ru⟩:=rv.get hx;obtain ⟨f0,f1,f2,f3,f4,f5⟩:=hf it (by simp);refine wpAny_pyNext_list_item st p.isList (x:=u) (by simpa using hu) λh' st' sb=>?_
  have I1:Inv X pins σ H { s with heap:=h' }:=I.turned (t':=s.toks) (λb o hb e=>(sb.2 b hb).trans e) f0 f1 f3 f4 f5;obtain ⟨o,e,c,d⟩:=id st';exact ⟨u,rfl,Fq (s:={ s with heap:=h' }) e c d (by decide) ⟨x,H,I1,ru,⟨rfl,λys hy=>by rw[I.list_inj hy hq];exact hx⟩,st',λb hb=>(hf b hb).1⟩⟩
 done:=by
  intro X hP hw hK hc i pins s σ H E I hf st hg;subst hP hw hK;obtain ⟨xs,hq,hx⟩:=hg;obtain ⟨its,rv,p,hz⟩:=I.list hq;obtain ⟨f0,f1,f2,f3,f4,f5⟩:=hf it (by simp);have hl:=rv.length;exact wpAny_pyNext_list_end (I.ok.hd hc) st p.isList (by simp;lia) λh' eb=>⟨rfl,I.turned (t':=s.toks) (λb o hb e=>eb b o hb e) f0 f1 f3 f4 f5⟩
 self:=λ_ _ _ _ _ st h=>wpAny_pyIter_listiter st h
theorem BH {P:Program} {w:World} {K:FG9} {tg:Expr} (a it:Addr):Turn P w K tg (Ks K a) [it] it (λi h=>h.IsTupleIter it a i) where
 mem:=by simp
 obj:=λi h st b hb=>by
  have e:b=it:=by simpa using hb
  subst e;obtain ⟨o,e,c,d⟩:=st;exact ⟨o,e,λv z=>by rw[d] at z;cases z⟩
 keep:=λi h h' st k=>st.at λo e=>k it (by simp) o e
 item:=by
  intro X hP hw hK hc i pins s σ H E I hf st hg;subst hP hw hK;obtain ⟨xs,x,hq,hx⟩:=hg;obtain ⟨its,rv,p,hz⟩:=I.tuple hq;obtain ⟨u,hu,ru⟩:=rv.get hx;obtain ⟨f0,f1,f2,f3,f4,f5⟩:=hf it (by simp);refine wpAny_pyNext_tuple_item st (show s.heap.IsTuple a its.toArray from p) (x:=u) (by simpa using hu) λh' st' sb=>?_
  have I1:Inv X pins σ H { s with heap:=h' }:=I.turned (t':=s.toks) (λb o hb e=>(sb.2 b hb).trans e) f0 f1 f3 f4 f5;obtain ⟨o,e,c,d⟩:=id st';exact ⟨u,rfl,Fq (s:={ s with heap:=h' }) e c d (by decide) ⟨x,H,I1,ru,⟨rfl,λys hy=>by rw[I.tuple_inj hy hq];exact hx⟩,st',λb hb=>(hf b hb).1⟩⟩
 done:=by
  intro X hP hw hK hc i pins s σ H E I hf st hg;subst hP hw hK;obtain ⟨xs,hq,hx⟩:=hg;obtain ⟨its,rv,p,hz⟩:=I.tuple hq;obtain ⟨f0,f1,f2,f3,f4,f5⟩:=hf it (by simp);have hl:=rv.length;exact wpAny_pyNext_tuple_end (I.ok.hd hc) st (show s.heap.IsTuple a its.toArray from p) (by simp;lia) λh' eb=>⟨rfl,I.turned (t':=s.toks) (λb o hb e=>eb b o hb e) f0 f1 f3 f4 f5⟩
 self:=λ_ _ _ _ _ st h=>wpAny_pyIter_tupleiter st h
theorem BI {P:Program} {w:World} {K:FG9} {tg:Expr} (it:Addr) (lo:Int) (n:Nat):Turn P w K tg (BC lo n) [it] it (λi h=>IsRangeIter h it (lo+(i:Nat)*1) ((n:Int) - (i:Nat)) 1) where
 mem:=by simp
 obj:=λi h st b hb=>by
  have e:b=it:=by simpa using hb
  subst e
  exact ⟨_,st,λv z=>by
   have z':Data.fields _=Data.cell v:=z;cases z'⟩
 keep:=λi h h' st k=>k it (by simp) _ st
 item:=by
  intro X hP hw hK hc i pins s σ H E I hf st hg;subst hP hw hK;obtain ⟨f0,f1,f2,f3,f4,f5⟩:=hf it (by simp);have W:=Walks.range (prog:=X.prog) (w:=X.w) (I.ok.hd hc) it lo 1 n;refine W.item i s _ _ hg st λv h' tk hv st' kk=>?_
  obtain ⟨t,rfl⟩:=hv;have I1:Inv X pins σ H { s with heap:=h',toks:=tk }:=I.turned (λb o hb e=>kk b o (by simpa using hb) e) f0 f1 f3 f4 f5;refine ⟨_,rfl,Fq (s:={ s with heap:=h',toks:=tk }) (n:="range_iterator") st' rfl rfl (by decide) ⟨.int (lo+i),H,I1,⟨t,?_⟩,⟨rfl,rfl⟩,st',λb hb=>(hf b hb).1⟩⟩;rw[Int.mul_one]
 done:=by
  intro X hP hw hK hc i pins s σ H E I hf st hg;subst hP hw hK;obtain ⟨f0,f1,f2,f3,f4,f5⟩:=hf it (by simp);exact wpAny_pyNext_range_end (I.ok.hd hc) st (by have:n<=i:=hg;lia) λh' eb=>⟨rfl,I.turned (t':=s.toks) (λb o hb e=>eb b o hb e) f0 f1 f3 f4 f5⟩
 self:=λ_ _ _ _ _ st h=>wpAny_pyIter_rangeiter st h
section
variable {X:Cx} {tg:Expr}
def Fo (K:FG9) (tl:TE):TI:=λσ H R=>tl σ H λx H1=>∃a,x=.ref a/\(∃xs,bD K H1 a xs)/\R (Ie K a) H1
def Lp (K:FG9) (tl:TE):TI:=λσ H R=>tl σ H λx H1=>∃a,x=.ref a/\(∃xs,jG K H1 a xs)/\R (Ks K a) H1
theorem bV (hl:PE X l tl):PI X tg l (Fo X.K tl):=by
 intro pins s σ H R I h;refine eJ (hl pins s σ H _ I h) λv s1 ⟨x,H1,I1,r1,q1⟩=>?_
 obtain ⟨a,e,⟨xs,hq⟩,q⟩:=q1;subst e;cases r1;obtain ⟨its,rv,p,hz⟩:=I1.list hq;refine wpAny_pyIter_list p.isList ?_;refine ⟨s1.heap.objs.size,[s1.heap.objs.size],_,_,H1,rfl,I1.kept (t':=s1.toks) λb o e=>Heap.get?_push_of_some _ e,DF a _,⟨_,Heap.get?_push_size _ rfl,rfl,rfl⟩,λb hb=>?_,q⟩;have e:b=s1.heap.objs.size:=by simpa using hb
 subst e;exact I1.fpOk (ao _) (I1.hok.fresh (ao _))
theorem JK (hl:PE X l tl):PI X tg l (Lp X.K tl):=by
 intro pins s σ H R I h;refine eJ (hl pins s σ H _ I h) λv s1 ⟨x,H1,I1,r1,q1⟩=>?_
 obtain ⟨a,e,⟨xs,hq⟩,q⟩:=q1;subst e;cases r1;obtain ⟨its,rv,p,hz⟩:=I1.tuple hq;refine wpAny_pyIter_tuple (show s1.heap.IsTuple a its.toArray from p) ?_;refine ⟨s1.heap.objs.size,[s1.heap.objs.size],_,_,H1,rfl,I1.kept (t':=s1.toks) λb o e=>Heap.get?_push_of_some _ e,BH a _,⟨_,Heap.get?_push_size _ rfl,rfl,rfl⟩,λb hb=>?_,q⟩;have e:b=s1.heap.objs.size:=by simpa using hb
 subst e;exact I1.fpOk (ao _) (I1.hok.fresh (ao _))
theorem AZ {σ:St} {lo hi:Int} (I:Inv X pins σ H s) (h1:-(2^62)<=lo) (h2:lo < 2^62) (h3:-(2^62)<=hi) (h4:hi < 2^62)
  (q:R (BC lo (hi - lo).toNat) H):wpAny (model X.prog X.w) X.A (pyIter (.ref s.heap.objs.size)) (PIE X pins σ tg R) E { s with heap:=s.heap.push { cls:=.type "range",data:=.fields #[.int lo t,.int hi u,.int 1 v] },toks:=tk }:=by
 refine wpAny_pyIter_range (IsRange.new ..) (small_one h1 h2 h3 h4) ?_;have I1:Inv X pins σ H { s with heap:=s.heap.push { cls:=.type "range",data:=.fields #[.int lo t,.int hi u,.int 1 v] },toks:=tk }:=I.kept λb o e=>Heap.get?_push_of_some _ e
 refine ⟨(s.heap.push { cls:=.type "range",data:=.fields #[.int lo t,.int hi u,.int 1 v] }).objs.size,[(s.heap.push { cls:=.type "range",data:=.fields #[.int lo t,.int hi u,.int 1 v] }).objs.size],_,_,H,rfl,
  I1.kept (t':=tk) λb o e=>Heap.get?_push_of_some _ e,BI _ lo (hi - lo).toNat,?_,λb hb=>?_,q⟩
 ·have e1:lo+((0:Nat):Int)*1=lo:=by simp
  have e2:(((hi - lo).toNat:Nat):Int) - ((0:Nat):Int)=Builtin.Range.rangeSize lo hi 1:=by rw[rangeSize_one];split <;> lia
  show IsRangeIter _ _ (lo+((0:Nat):Int)*1) ((((hi - lo).toNat:Nat):Int) - ((0:Nat):Int)) 1
  rw[e1,e2];exact Heap.get?_push_size _ rfl
 ·have e:b=(s.heap.push { cls:=.type "range",data:=.fields #[.int lo t,.int hi u,.int 1 v] }).objs.size:=by simpa using hb
  subst e;exact I1.fpOk (ao _) (I1.hok.fresh (ao _))
def IH (ta:TA):TI:=λσ H R=>ta σ H λvs H1=>∃j:Int,vs=[.int j]/\-(2^62)<=j/\j < 2^62/\R (BC 0 j.toNat) H1
def IG (ta:TA):TI:=λσ H R=>ta σ H λvs H1=>∃i j:Int,vs=[.int i,.int j]/\(-(2^62)<=i/\i < 2^62/\-(2^62)<=j/\j < 2^62)/\R (BC i (j - i).toNat) H1
theorem b6 {a:Expr} {ta:TA} {p pos:Pos} (hg:Gl X "range") (hm:X.mg "range"=none) (ha:PA X [a] ta) (hs:starEach [a] X.env=[(false,eval a X.env)]:=by rfl):PI X tg (.Call (.Name "range" p) [a] [] pos) (IH ta):=by
 intro pins s σ H R I h;refine Call_ (ib I hg hm boot_range (PyProof.Rows.callWith_type1 (eJ (ha pos pins s σ H _ I h) λus s1 ⟨vs,H1,I1,r1,q1⟩=>?_) hs rfl));obtain ⟨j,e,q1,q2,q⟩:=q1;subst e;cases r1 with
 | cons r rr =>
  cases rr;obtain ⟨t,rfl⟩:=r;exact call_range_1 (AZ I1 (by lia) (by lia) q1 q2 (by simpa using q))
theorem DV {a b:Expr} {ta:TA} {p pos:Pos} (hg:Gl X "range") (hm:X.mg "range"=none) (ha:PA X [a,b] ta) (hs:starEach [a,b] X.env=[(false,eval a X.env),(false,eval b X.env)]:=by rfl) (hs2:starEach [b] X.env=[(false,eval b X.env)]:=by rfl) :
  PI X tg (.Call (.Name "range" p) [a,b] [] pos) (IG ta):=by
 intro pins s σ H R I h;refine Call_ (ib I hg hm boot_range (PyProof.Rows.callWith_type1 (eJ (ha pos pins s σ H _ I h) λus s1 ⟨vs,H1,I1,r1,q1⟩=>?_) (by rw[hs,hs2]) (by rw[hs2];rfl)));obtain ⟨i,j,e,⟨q1,q2,q3,q4⟩,q⟩:=q1;subst e;cases r1 with
 | cons r rr =>
  cases rr with
  | cons r' rr =>
   cases rr;obtain ⟨t,rfl⟩:=r;obtain ⟨t',rfl⟩:=r';exact call_range_2 (AZ I1 q1 q2 q3 q4 q)
def KL (wi:TI) (g:TG) (tb:TS):TS:=λD σ H=>wi σ H λJ H1=>∃W:Nat->Nat->St->Hp->Prop,(∃m,W 0 m σ H1)/\∀i m σ H,W i m σ H →
 (J.stop i H/\D.nx σ H)\/(J.go i H/\∃N:St->Hp->Prop,(∀σ' H',N σ' H'->∃m',m' < m/\W (i+1) m' σ' H')/\∀x H',J.yld i H x H'->g x σ H' λσ2 H2=>tb { D with nx:=N,ct:=N,bk:=D.nx } σ2 H2)
def vm (fp:List Addr) (h:Heap):List (Addr×Obj):=fp.filterMap λb=>(h.get? b).map λo=>(b,o)
theorem mB (hb:b∈fp) (e:h.get? b=some o):(b,o)∈vm fp h:=List.mem_filterMap.mpr ⟨b,hb,by rw[e];rfl⟩
theorem DY (hp:p∈vm fp h):p.1∈fp/\h.get? p.1=some p.2:=by
 obtain ⟨b,hb,e⟩:=List.mem_filterMap.mp hp;cases q:h.get? b with
 | none=>rw[q] at e;cases e
 | some o =>
  rw[q] at e;have e':(b,o)=p:=bQ e;subst e';exact ⟨hb,q⟩
theorem Inv.pinned {σ:St} (I:Inv X pins σ H s) (hf:∀b∈fp,ig X pins H b) (ho:∀b∈fp,∃o,s.heap.get? b=some o/\∀v,o.data≠.cell v):Inv X (pins++vm fp s.heap) σ H s :=
 I.pins_of λp hp=>(ax.mp hp).elim (λz=>I.pin p (bG _ z)) λz=>by
  obtain ⟨hb,e⟩:=DY z;obtain ⟨f0,f1,f2,_⟩:=hf p.1 hb;obtain ⟨o,e',d⟩:=ho p.1 hb;rw[e] at e';cases e';exact ⟨e,f0,f1,f2,d⟩
theorem Inv.unpinned {σ:St} (I:Inv X (pins++pl) σ H s):Inv X pins σ H s:=I.pins_of λp hp=>I.pin p (bG _ (mQ _ hp))
theorem d6 {iter:Expr} {body:List Stmt} {wi:TI} {g:TG} {tb:TS} {pos:Pos} (hp:PassesOwn (model X.prog X.w) X.A X.env X.xe) (hc:X.calm=true) (hi:PI X tg iter wi) (hg:PG X tg g) (hb:Cw X body tb)
  (hs:∀x,foldedSetIterable iter X.env x=pure x:=by intro _;rfl):PS X (.For tg iter body [] pos) (KL wi g tb):=by
 intro pins s σ H D I h;refine wpAny_For (eJ (hi pins s σ H _ I h) λv s1 h1=>eJ h1 λitv s2 h2=>?_) hs;obtain ⟨it,fp,tn,J,H2,e,I2,T,st2,f2,W,⟨m0,w0⟩,turn⟩:=h2;subst e;have stat:∀{H':Hp},(∀b∈fp,H' b=none)->∀b∈fp,ig X pins H' b:=λhn b hb=>⟨hn b hb,(f2 b hb).2⟩
 refine codeAny_forLoop_any (λn s'=>∃i σ' H',Inv X pins σ' H' s'/\tn i s'.heap/\(∀b∈fp,H' b=none)/\W i n σ' H') ?_ m0 ⟨0,σ,H2,I2,st2,λb hb=>(f2 b hb).1,w0⟩;rintro n s3 ⟨i,σ3,H3,I3,st3,fr3,w3⟩;rcases turn i n σ3 H3 w3 with ⟨stop,qn⟩ | ⟨go,N,hN,step⟩
 ·refine wpAny_passesOwn hp (eJ (T.done X rfl rfl rfl hc i pins s3 σ3 H3 X.xe I3 (stat fr3) st3 stop) λr s4 ⟨hr,I4⟩=>?_);subst hr;exact wpAny_execs_nil ⟨σ3,H3,I4,qn⟩
 ·refine wpAny_passesOwn hp (eJ (T.item X rfl rfl rfl hc i pins s3 σ3 H3 X.xe I3 (stat fr3) st3 go) λr s4 ⟨u,hr,h4⟩=>?_);subst hr;refine wpAny_passesOwn hp (eJ h4 λ_ s5 ⟨x,H5,I5,r5,y5,st5,fr5⟩=>?_);have I5':=I5.pinned (stat fr5) (T.obj _ _ st5);refine wpAny_passesOwn hp (eJ (hg _ s5 σ3 H5 x u _ I5' r5 (step x H5 y5)) λ_ s6 ⟨σ6,H6,I6,q6⟩=>?_);refine wpAny_passesOwn hp (eJ (hb _ s6 σ6 H6 _ I6 q6) λf s7 q7=>?_)
  have again:∀{σ7:St} {H7:Hp},Inv X (pins++vm fp s5.heap) σ7 H7 s7->N σ7 H7->∃m,m < n/\∃i σ' H',Inv X pins σ' H' s7/\tn i s7.heap/\(∀b∈fp,H' b=none)/\W i m σ' H':=λ{σ7 H7} I7 n7=>by
   obtain ⟨m',hm,w7⟩:=hN σ7 H7 n7;refine ⟨m',hm,i+1,σ7,H7,I7.unpinned,T.keep _ _ _ st5 λb hb o e=>(I7.pin (b,o) (bG _ (bG _ (mB hb e)))).1,λb hb=>?_,w7⟩;obtain ⟨o,e,d⟩:=T.obj _ _ st5 b hb;exact (I7.pin (b,o) (bG _ (bG _ (mB hb e)))).2.1
  cases f with
  | next=>obtain ⟨σ7,H7,I7,n7⟩:=q7;exact again I7 n7
  | cont=>obtain ⟨σ7,H7,I7,n7⟩:=q7;exact again I7 n7
  | brk=>obtain ⟨σ7,H7,I7,q7⟩:=q7;exact ⟨σ7,H7,I7.unpinned,q7⟩
  | ret v=>obtain ⟨x7,σ7,H7,I7,r7,q7⟩:=q7;exact ⟨x7,σ7,H7,I7.unpinned,r7,q7⟩
end
theorem iI {K:FG9} {g:TG} {tb:TS} {D:Ends} (Pv:Nat->St->Hp->Prop) (h0:Pv 0 σ H) (hl:∀i σ H,i<=xs.length->Pv i σ H->bD K H a xs)
  (hs:∀i x σ H,xs[i]?=some x->Pv i σ H->g x σ H λσ2 H2=>tb { D with nx:=Pv (i+1),ct:=Pv (i+1),bk:=D.nx } σ2 H2) (hd:∀σ H,Pv xs.length σ H->D.nx σ H) :
  ∃W:Nat->Nat->St->Hp->Prop,(∃m,W 0 m σ H)/\∀i m σ H,W i m σ H →
   ((Ie K a).stop i H/\D.nx σ H)\/((Ie K a).go i H/\∃N:St->Hp->Prop,(∀σ' H',N σ' H'->∃m',m' < m/\W (i+1) m' σ' H')/\∀x H',(Ie K a).yld i H x H'->g x σ H' λσ2 H2=>tb { D with nx:=N,ct:=N,bk:=D.nx } σ2 H2):=by
 refine ⟨λi m σ H=>m=xs.length - i/\i<=xs.length/\Pv i σ H,⟨xs.length,by simp,bo _,h0⟩,?_⟩;rintro i m σ H ⟨rfl,hi,p⟩;have q:=hl i σ H hi p;by_cases hlt:i < xs.length
 ·refine .inr ⟨⟨xs,xs[i],q,by simp [hlt]⟩,Pv (i+1),λσ' H' p'=>⟨xs.length - (i+1),by lia,rfl,hlt,p'⟩,λx H' y=>?_⟩;obtain ⟨e,y⟩:=y;subst e;exact hs i x σ _ (y xs q) p
 ·have e:i=xs.length:=by lia
  subst e;exact .inl ⟨⟨xs,q,ao _⟩,hd σ H p⟩
theorem HL {K:FG9} {g:TG} {tb:TS} {D:Ends} (Pv:Nat->St->Hp->Prop) (h0:Pv 0 σ H) (hl:∀i σ H,i<=xs.length->Pv i σ H->jG K H a xs)
  (hs:∀i x σ H,xs[i]?=some x->Pv i σ H->g x σ H λσ2 H2=>tb { D with nx:=Pv (i+1),ct:=Pv (i+1),bk:=D.nx } σ2 H2) (hd:∀σ H,Pv xs.length σ H->D.nx σ H) :
  ∃W:Nat->Nat->St->Hp->Prop,(∃m,W 0 m σ H)/\∀i m σ H,W i m σ H →
   ((Ks K a).stop i H/\D.nx σ H)\/((Ks K a).go i H/\∃N:St->Hp->Prop,(∀σ' H',N σ' H'->∃m',m' < m/\W (i+1) m' σ' H')/\∀x H',(Ks K a).yld i H x H'->g x σ H' λσ2 H2=>tb { D with nx:=N,ct:=N,bk:=D.nx } σ2 H2):=by
 refine ⟨λi m σ H=>m=xs.length - i/\i<=xs.length/\Pv i σ H,⟨xs.length,by simp,bo _,h0⟩,?_⟩;rintro i m σ H ⟨rfl,hi,p⟩;have q:=hl i σ H hi p;by_cases hlt:i < xs.length
 ·refine .inr ⟨⟨xs,xs[i],q,by simp [hlt]⟩,Pv (i+1),λσ' H' p'=>⟨xs.length - (i+1),by lia,rfl,hlt,p'⟩,λx H' y=>?_⟩;obtain ⟨e,y⟩:=y;subst e;exact hs i x σ _ (y xs q) p
 ·have e:i=xs.length:=by lia
  subst e;exact .inl ⟨⟨xs,q,ao _⟩,hd σ H p⟩
theorem yh {lo:Int} {g:TG} {tb:TS} {D:Ends} (Pv:Nat->St->Hp->Prop) (h0:Pv 0 σ H)
  (hs:∀i σ H,i < n->Pv i σ H->g (.int (lo+i)) σ H λσ2 H2=>tb { D with nx:=Pv (i+1),ct:=Pv (i+1),bk:=D.nx } σ2 H2) (hd:∀σ H,Pv n σ H->D.nx σ H) :
  ∃W:Nat->Nat->St->Hp->Prop,(∃m,W 0 m σ H)/\∀i m σ H,W i m σ H →
   ((BC lo n).stop i H/\D.nx σ H)\/((BC lo n).go i H/\∃N:St->Hp->Prop,(∀σ' H',N σ' H'->∃m',m' < m/\W (i+1) m' σ' H')/\∀x H',(BC lo n).yld i H x H'->g x σ H' λσ2 H2=>tb { D with nx:=N,ct:=N,bk:=D.nx } σ2 H2):=by
 refine ⟨λi m σ H=>m=n - i/\i<=n/\Pv i σ H,⟨n,by simp,bo _,h0⟩,?_⟩;rintro i m σ H ⟨rfl,hi,p⟩;by_cases hlt:i < n
 ·refine .inr ⟨hlt,Pv (i+1),λσ' H' p'=>⟨n - (i+1),by lia,rfl,hlt,p'⟩,λx H' y=>?_⟩;obtain ⟨e,y⟩:=y;subst e y;exact hs i σ _ hlt p
 ·have e:i=n:=by lia
  subst e;exact .inl ⟨ao _,hd σ H p⟩
abbrev R2:=V->V->Hp->VK->Prop
def sT (X:Cx) (f:Value->Value->Sem Value) (r:R2):Prop :=
 ∀(pins:List (Addr×Obj)) (s:Shared) (σ:St) (H:Hp) (x y:V) (v u:Value) (Q:VK),Inv X pins σ H s->RelV x v->RelV y u->r x y H Q →
  wpAny (model X.prog X.w) X.A (f v u) (EP X pins σ Q) X.xe s
def Me (X:Cx) (f:Value->Sem Value) (r:V->Hp->VK->Prop):Prop :=
 ∀(pins:List (Addr×Obj)) (s:Shared) (σ:St) (H:Hp) (x:V) (v:Value) (Q:VK),Inv X pins σ H s->RelV x v->r x H Q →
  wpAny (model X.prog X.w) X.A (f v) (EP X pins σ Q) X.xe s
def oi (X:Cx) (f:Value) (r:List V->Hp->VK->Prop):Prop :=
 ∀(pins:List (Addr×Obj)) (s:Shared) (σ:St) (H:Hp) (xs:List V) (us:List Value) (Q:VK),Inv X pins σ H s->cf xs us->r xs H Q →
  wpAny (model X.prog X.w) X.A (call f us) (EP X pins σ Q) X.xe s
def KG (r:R2) (ta tb:TE):TE:=λσ H Q=>ta σ H λx H1=>tb σ H1 λy H2=>r x y H2 Q
def LO (r:V->Hp->VK->Prop) (ta:TE):TE:=λσ H Q=>ta σ H λx H1=>r x H1 Q
def rI (C:Int->Int->Prop) (g:Int->Int->V):R2:=λx y H Q=>∃i j,x=.int i/\y=.int j/\C i j/\Q (g i j) H
def Ht (g:Int->Int->V):R2:=λx y H Q=>∃i j,x=.int i/\y=.int j/\Q (g i j) H
def rU (g:Int->V):V->Hp->VK->Prop:=λx H Q=>∃i,x=.int i/\Q (g i) H
section
variable {X:Cx} {a b c:Expr} {ta tb tc:TE} {pos:Pos}
theorem Ki (ha:PE X a ta) (hb:PE X b tb) {σ:St} {R:V->V->Hp->Prop} (I:Inv X pins σ H s)
  (h:ta σ H λx H1=>tb σ H1 λy H2=>R x y H2) {f:Value->Value->Sem Value}
  (hf:∀v u s2 x y H2,Inv X pins σ H2 s2->RelV x v->RelV y u->R x y H2->wpAny (model X.prog X.w) X.A (f v u) Q X.xe s2) :
  wpAny (model X.prog X.w) X.A (eval a X.env) (λv s₁=>wpAny (model X.prog X.w) X.A (eval b X.env) (λu s₂=>wpAny (model X.prog X.w) X.A (f v u) Q X.xe s₂) X.xe s₁) X.xe s:=by
 refine eJ (ha pins s σ H _ I h) λv s1 ⟨x,H1,I1,r1,q1⟩=>?_
 refine eJ (hb pins s1 σ H1 _ I1 q1) λu s2 ⟨y,H2,I2,r2,q2⟩=>?_
 exact hf v u s2 x y H2 I2 r1 r2 q2
theorem bx (ho:sT X (binaryOp op) r) (ha:PE X a ta) (hb:PE X b tb):PE X (.BinOp a op b pos) (KG r ta tb):=by
 intro pins s σ H Q I h;exact wpAny_BinOp (Ki ha hb I h λv u s2 x y H2 I2 rx ry q=>ho pins s2 σ H2 x y v u Q I2 rx ry q)
theorem vo (ho:Me X (unaryOp op) r) (ha:PE X a ta):PE X (.UnaryOp op a pos) (LO r ta):=by
 intro pins s σ H Q I h;exact UnaryOp_ (eJ (ha pins s σ H _ I h) λv s1 ⟨x,H1,I1,r1,q1⟩=>ho pins s1 σ H1 x v Q I1 r1 q1)
theorem LP {g:Int->Int->Int}
  (rule:∀(i j:Int) (t u:Tok) (s:Shared) (Q:Value->Shared->Prop) (E:Value->Shared->Prop),C i j->Q (.int (g i j) s.toks) { s with toks:=s.toks+1 }->wpAny (model X.prog X.w) X.A (f (.int i t) (.int j u)) Q E s) :
  sT X f (rI C λi j=>.int (g i j)):=by
 intro pins s σ H x y v u Q I rx ry h;obtain ⟨i,j,rfl,rfl,hc,q⟩:=h;obtain ⟨t,rfl⟩:=rx;obtain ⟨t',rfl⟩:=ry;exact rule i j t t' s _ _ hc ⟨.int (g i j),H,I.tok _,⟨_,rfl⟩,q⟩
theorem Le {g:Int->Int->Int}
  (rule:∀(i j:Int) (t u:Tok) (s:Shared) (Q:Value->Shared->Prop) (E:Value->Shared->Prop),Q (.int (g i j) s.toks) { s with toks:=s.toks+1 }->wpAny (model X.prog X.w) X.A (f (.int i t) (.int j u)) Q E s) :
  sT X f (Ht λi j=>.int (g i j)):=by
 intro pins s σ H x y v u Q I rx ry h;obtain ⟨i,j,rfl,rfl,q⟩:=h;obtain ⟨t,rfl⟩:=rx;obtain ⟨t',rfl⟩:=ry;exact rule i j t t' s _ _ ⟨.int (g i j),H,I.tok _,⟨_,rfl⟩,q⟩
theorem HE {g:Int->Int->Bool}
  (rule:∀(i j:Int) (t u:Tok) (s:Shared) (Q:Value->Shared->Prop) (E:Value->Shared->Prop),Q (.bool (g i j)) s->wpAny (model X.prog X.w) X.A (f (.int i t) (.int j u)) Q E s) :
  sT X f (Ht λi j=>.bl (g i j)):=by
 intro pins s σ H x y v u Q I rx ry h;obtain ⟨i,j,rfl,rfl,q⟩:=h;obtain ⟨t,rfl⟩:=rx;obtain ⟨t',rfl⟩:=ry;exact rule i j t t' s _ _ ⟨.bl (g i j),H,I,rfl,q⟩
def Ko (i j:Int):Prop:=(-(2^64) < i/\i < 2^64)\/(-(2^64) < j/\j < 2^64)
theorem Ko.ok (h:Ko i j):IntMulOk i j:=by
 rcases h with ⟨h1,h2⟩ | ⟨h1,h2⟩
 ·exact .of_left (intBits_le_64 h1 h2)
 ·exact .of_right (intBits_le_64 h1 h2)
theorem eU:sT X (binaryOp .Add) (Ht λi j=>.int (i+j)):=Le λ_ _ _ _ _ _ _ q=>add_int q
theorem gY:sT X (binaryOp .Sub) (Ht λi j=>.int (i - j)):=Le λ_ _ _ _ _ _ _ q=>sub_int q
theorem kn:sT X (binaryOp .Mod) (rI (λ_ j=>0 < j) λi j=>.int (i % j)):=LP λi j _ _ _ _ _ hc q=>by
 have h1:(0:Int) < j:=hc;exact mod_int' (by lia) (by rw[Int.fmod_eq_emod_of_nonneg i (by lia)];exact q)
theorem HD:sT X (binaryOp .Mod) (rI (λ_ j=>j≠0) λi j=>.int (i.fmod j)):=LP λ_ _ _ _ _ _ _ hc q=>mod_int' hc q
theorem unI {g:Int->Int}
  (rule:∀(i:Int) (t:Tok) (s:Shared) (Q:Value->Shared->Prop) (E:Value->Shared->Prop),Q (.int (g i) s.toks) { s with toks:=s.toks+1 }->wpAny (model X.prog X.w) X.A (f (.int i t)) Q E s) :
  Me X f (rU λi=>.int (g i)):=by
 intro pins s σ H x v Q I rx h;obtain ⟨i,rfl,q⟩:=h;obtain ⟨t,rfl⟩:=rx;exact rule i t s _ _ ⟨.int (g i),H,I.tok _,⟨_,rfl⟩,q⟩
theorem pF:Me X (unaryOp .USub) (rU λi=>.int (-i)):=unI λ_ _ _ _ _ q=>neg_int q
end
def KW:V->V->Bool
 | .non,.non=>true | .non,.int _=>true | .int _,.non=>true | .non,.bl _=>true | .bl _,.non=>true | .non,.str _=>true | .str _,.non=>true
 | .int _,.int _=>true | .bl _,.bl _=>true | .str _,.str _=>true | .byt _,.byt _=>true
 | .int _,.str _=>true | .str _,.int _=>true | .bl _,.str _=>true | .str _,.bl _=>true
 | _,_=>false
def rEq:R2:=λx y H Q=>KW x y=true/\Q (.bl (decide (x=y))) H
def rNe:R2:=λx y H Q=>KW x y=true/\Q (.bl (!decide (x=y))) H
theorem Dn:decide (V.int i=V.int j)=(i == j):=by
 rw[je];simp
theorem FJ:decide (V.bl i=V.bl j)=(i == j):=by
 rw[je];simp
theorem Dm:decide (V.str i=V.str j)=(i == j):=by
 rw[je];simp
theorem Dp:decide (V.byt i=V.byt j)=(i.toList == j.toList):=by
 rw[je];cases i;cases j;simp
section
variable {X:Cx} {a b c:Expr} {ta tb tc:TE} {pos:Pos}
theorem cI {σ:St} (I:Inv X pins σ H s) (q:Q (.bl k) H) (e:k=k'):EP X pins σ Q (.bool k') s:=by
 subst e;exact ⟨.bl k,H,I,rfl,q⟩
theorem d9:sT X (compareOp .Eq) rEq:=by
 intro pins s σ H x y v u Q I rx ry h;obtain ⟨hs,q⟩:=h;cases x with
 | non =>
  cases rx;cases y with
  | non=>cases ry;exact PySem.EqNone.eq_none_none (cI I q (by simp))
  | bl j=>cases ry;exact PySem.EqNone.eq_none_bool (cI I q (by simp))
  | int j=>obtain ⟨t',rfl⟩:=ry;exact PySem.EqNone.eq_none_int (cI I q (by simp))
  | str j=>obtain ⟨t',rfl⟩:=ry;exact PySem.EqNone.eq_none_str (cI I q (by simp))
  | _=>exact absurd (show false=true from hs) aQ
 | bl i =>
  cases rx;cases y with
  | non=>cases ry;exact PySem.EqNone.eq_bool_none (cI I q (by simp))
  | bl j=>cases ry;exact eq_bool (cI I q FJ)
  | str j=>obtain ⟨t',rfl⟩:=ry;exact PySem.EqMixed.eq_bool_str (cI I q (by simp))
  | _=>exact absurd (show false=true from hs) aQ
 | int i =>
  obtain ⟨t,rfl⟩:=rx;cases y with
  | non=>cases ry;exact PySem.EqNone.eq_int_none (cI I q (by simp))
  | int j=>obtain ⟨t',rfl⟩:=ry;exact eq_int (cI I q Dn)
  | str j=>obtain ⟨t',rfl⟩:=ry;exact PySem.EqMixed.eq_int_str (cI I q (by simp))
  | _=>exact absurd (show false=true from hs) aQ
 | str i =>
  obtain ⟨t,rfl⟩:=rx;cases y with
  | non=>cases ry;exact PySem.EqNone.eq_str_none (cI I q (by simp))
  | bl j=>cases ry;exact PySem.EqMixed.eq_str_bool (cI I q (by simp))
  | int j=>obtain ⟨t',rfl⟩:=ry;exact PySem.EqMixed.eq_str_int (cI I q (by simp))
  | str j=>obtain ⟨t',rfl⟩:=ry;exact eq_str (cI I q Dm)
  | _=>exact absurd (show false=true from hs) aQ
 | byt i =>
  obtain ⟨t,rfl⟩:=rx;cases y with
  | byt j=>obtain ⟨t',rfl⟩:=ry;exact PySem.W.eq_bytes (cI I q Dp)
  | _=>exact absurd (show false=true from hs) aQ
 | _=>cases y <;> exact absurd (show false=true from hs) aQ
theorem qG:sT X (compareOp .NotEq) rNe:=by
 intro pins s σ H x y v u Q I rx ry h;obtain ⟨hs,q⟩:=h;cases x with
 | non =>
  cases rx;cases y with
  | non=>cases ry;exact PySem.EqNone.ne_none_none (cI I q (by simp))
  | bl j=>cases ry;exact PySem.EqNone.ne_none_bool (cI I q (by simp))
  | int j=>obtain ⟨t',rfl⟩:=ry;exact PySem.EqNone.ne_none_int (cI I q (by simp))
  | str j=>obtain ⟨t',rfl⟩:=ry;exact PySem.EqNone.ne_none_str (cI I q (by simp))
  | _=>exact absurd (show false=true from hs) aQ
 | bl i =>
  cases rx;cases y with
  | non=>cases ry;exact PySem.EqNone.ne_bool_none (cI I q (by simp))
  | bl j=>cases ry;exact ne_bool (cI I q (congrArg not FJ))
  | str j=>obtain ⟨t',rfl⟩:=ry;exact PySem.EqMixed.ne_bool_str (cI I q (by simp))
  | _=>exact absurd (show false=true from hs) aQ
 | int i =>
  obtain ⟨t,rfl⟩:=rx;cases y with
  | non=>cases ry;exact PySem.EqNone.ne_int_none (cI I q (by simp))
  | int j=>obtain ⟨t',rfl⟩:=ry;exact ne_int (cI I q (congrArg not Dn))
  | str j=>obtain ⟨t',rfl⟩:=ry;exact PySem.EqMixed.ne_int_str (cI I q (by simp))
  | _=>exact absurd (show false=true from hs) aQ
 | str i =>
  obtain ⟨t,rfl⟩:=rx;cases y with
  | non=>cases ry;exact PySem.EqNone.ne_str_none (cI I q (by simp))
  | bl j=>cases ry;exact PySem.EqMixed.ne_str_bool (cI I q (by simp))
  | int j=>obtain ⟨t',rfl⟩:=ry;exact PySem.EqMixed.ne_str_int (cI I q (by simp))
  | str j=>obtain ⟨t',rfl⟩:=ry;exact ne_str (cI I q (congrArg not Dm))
  | _=>exact absurd (show false=true from hs) aQ
 | byt i =>
  obtain ⟨t,rfl⟩:=rx;cases y with
  | byt j=>obtain ⟨t',rfl⟩:=ry;exact PySem.W.ne_bytes (cI I q (congrArg not Dp))
  | _=>exact absurd (show false=true from hs) aQ
 | _=>cases y <;> exact absurd (show false=true from hs) aQ
theorem oM:sT X (compareOp .Lt) (Ht λi j=>.bl (decide (i < j))):=HE λ_ _ _ _ _ _ _ q=>lt_int q
theorem Ld:sT X (compareOp .LtE) (Ht λi j=>.bl (decide (i<=j))):=HE λ_ _ _ _ _ _ _ q=>le_int q
theorem vw:sT X (compareOp .Gt) (Ht λi j=>.bl (decide (j < i))):=HE λ_ _ _ _ _ _ _ q=>gt_int q
theorem xV:sT X (compareOp .GtE) (Ht λi j=>.bl (decide (j<=i))):=HE λ_ _ _ _ _ _ _ q=>ge_int q
theorem JO:sT X (compareOp .Is) (λx y H Q=>y=.non/\Q (.bl (decide (x=.non))) H):=by
 intro pins s σ H x y v u Q I rx ry h;obtain ⟨rfl,q⟩:=h;cases ry;refine is_none_gen (cI I q ?_)
 cases x <;> first
  | (cases rx;rfl)
  | (obtain ⟨t,rfl⟩:=rx;rfl)
theorem HC:sT X (compareOp .IsNot) (λx y H Q=>y=.non/\Q (.bl (!decide (x=.non))) H):=by
 intro pins s σ H x y v u Q I rx ry h;obtain ⟨rfl,q⟩:=h;cases ry;refine isnot_none_gen (cI I q ?_)
 cases x <;> first
  | (cases rx;rfl)
  | (obtain ⟨t,rfl⟩:=rx;rfl)
theorem bp (b:Expr) {op:CmpOp} (h:op≠.In:=by decide) (h2:op≠.NotIn:=by decide):behindInMarks op b=false:=by
 have e1:(op == CmpOp.In)=false:=by cases op <;> first | rfl | exact absurd rfl h
 have e2:(op == CmpOp.NotIn)=false:=by cases op <;> first | rfl | exact absurd rfl h2
 cases b <;> simp [behindInMarks,e1,e2]
theorem fD (ho:sT X (compareOp op) r) (ha:PE X a ta) (hb:PE X b tb) (hm:behindInMarks op b=false):PE X (.Compare a [op] [b] pos) (KG r ta tb):=by
 intro pins s σ H Q I h;exact wpAny_Compare1 (Ki ha hb I h λv u s2 x y H2 I2 rx ry q=>ho pins s2 σ H2 x y v u Q I2 rx ry q) hm
def Ik (t:TE):TT:=λσ H Q=>t σ H λx H'=>∃k,x=.bl k/\Q k H'
theorem a8 (ho:sT X (compareOp op) r) (ha:PE X a ta) (hb:PE X b tb) (hm:behindInMarks op b=false):PT X (.Compare a [op] [b] pos) (Ik (KG r ta tb)):=by
 intro pins s σ H Q I h
 refine wpAny_isTrue_Compare1 (eJ (ha pins s σ H _ I h) λv s1 ⟨x,H1,I1,r1,q1⟩=>eJ (hb pins s1 σ H1 _ I1 q1) λu s2 ⟨y,H2,I2,r2,q2⟩ =>
  eJ (ho pins s2 σ H2 x y v u _ I2 r1 r2 q2) λc s3 ⟨z,H3,I3,r3,k,e,q3⟩=>?_) hm
 subst e;cases r3;exact wpAny_truthy_bool ⟨H3,I3,q3⟩
theorem vO:(sizeLine:Nat) < 2^63:=by rw[sizeLine_eq];decide
theorem vals1 (r:cf [x] us):∃u,us=[u]/\RelV x u:=by
 cases r with
 | cons r1 r2=>cases r2;exact ⟨_,rfl,r1⟩
theorem vals2 (r:cf [x,y] us):∃u w',us=[u,w']/\RelV x u/\RelV y w':=by
 cases r with
 | cons r1 r2 =>
  cases r2 with
  | cons r3 r4=>cases r4;exact ⟨_,_,rfl,r1,r3⟩
theorem wg:oi X (.builtin "abs") (λxs H Q=>∃i,xs=[.int i]/\Q (.int (if i < 0 then -i else i)) H):=by
 intro pins s σ H xs us Q I r h;obtain ⟨i,rfl,q⟩:=h;obtain ⟨u,rfl,t,rfl⟩:=vals1 r;exact call_abs_int λu tk=>⟨.int (if i < 0 then -i else i),H,I.tok _,⟨_,rfl⟩,q⟩
theorem oy (hc:X.calm=true):oi X (.builtin "min") (λxs H Q=>∃i j,xs=[.int i,.int j]/\Q (.int (if j < i then j else i)) H):=by
 intro pins s σ H xs us Q I r h;obtain ⟨i,j,rfl,q⟩:=h;obtain ⟨u,w',rfl,⟨t,rfl⟩,⟨t',rfl⟩⟩:=vals2 r;refine min_two_ints (I.ok.hd hc) λh' tk k=>⟨_,H,I.kept k,?_,q⟩
 by_cases hj:j < i
 ·rw[if_pos hj,if_pos hj];exact ⟨_,rfl⟩
 ·rw[if_neg hj,if_neg hj];exact ⟨_,rfl⟩
end
structure Eh (h:Heap) (x dx C:Addr) (mA:Str->Option Value):Prop where
 obj:h.get? x=some (PySem.W.instObj C dx)
 ns:h.Ns1 dx mA
 ne:dx≠x
theorem D5 {h:Heap} (n:h.Ns1 dx mA):∃od,h.get? dx=some od/\∀name,PySem.W.lookIn name od=some (mA name):=by
 obtain ⟨o,es,ep,ho,hd,hk,_,hm⟩:=n;refine ⟨o,ho,λname=>?_⟩;have e:=hm name;unfold nsFind findBy at e;rw[<- Array.find?_toList] at e;unfold PySem.W.lookIn;rw[hd]
 dsimp only
 split
 ·rename_i y q
  rw[q] at e;exact congrArg some e
 ·rename_i q
  rw[q] at e
  have a:es.toList.any (·.refKey)=false:=by
   rw[List.any_eq_false];intro y hy;obtain ⟨z,t,hkey⟩:=hk y (Array.mem_toList_iff.mp hy);simp [DictEntry.refKey,hkey]
  have a':¬es.toList.any (·.refKey)=true:=by rw[a];exact aQ
  rw[if_neg a'];exact congrArg some e
theorem Eh.look (I:Eh h x dx C mA):∃od,PySem.W.InstAt h x (PySem.W.instObj C dx) C (some od)/\∀name,PySem.W.lookIn name od=some (mA name) :=
 let ⟨od,ho,hl⟩:=D5 I.ns
 ⟨od,⟨I.obj,rfl,rfl,ho⟩,hl⟩
section
variable {prog:Program} {w:World} {A:Around} {E:Value->Shared->Prop} {s:Shared} {K:FG9} {x dx C f:Addr} {mA:Str->Option Value} {name:Str} {v:Value}
theorem get_map (X:K.In s.heap) (I:Eh s.heap x dx C mA) (hg:PySem.W.plainGet K C name=true) (hh:PySem.W.hasDictIn K C=true)
  (ha:PySem.W.findIn K (.ref C) name=some none) (hv:mA name=some v) (hv':PySem.W.handedIn v=true) (h:Q v { s with toks:=s.toks+1 }) :
  wpAny (model prog w) A (getAttr (.ref x) name expr) Q E s:=by
 obtain ⟨od,J,hl⟩:=I.look;exact PySem.W.get_value X J (PySem.W.plainGet_of hg).1 (PySem.W.findObj_own hh ha rfl (by rw[hl,hv])) hv' h
theorem Gz (X:K.In s.heap) (I:Eh s.heap x dx C mA)
  (hs:PySem.W.findIn K (.ref C) "__setattr__"=some (some (.builtin "object.__setattr__"))) (hp:PySem.W.plainOver K C=true) (ht:PySem.W.takerIn K C name=some none) (hh:PySem.W.hasDictIn K C=true)
  (hw:PySem.Within mA ns) (hsz:ns.length<=sizeLine)
  (h:∀h',Eh h' x dx C (λy=>if y=name then some v else mA y)->Heap.SameBut dx s.heap h'->Q () { s with heap:=h',toks:=s.toks+2 }) :
  wpAny (model prog w) A (setAttr (.ref x) name v) Q E s:=by
 obtain ⟨od,J,hl⟩:=I.look;refine PySem.W.set_plain X J hs (PySem.W.osa_open (s:={ s with toks:=s.toks+1 }) (r:=none) X J hp ht λb=>?_);obtain ⟨cd,hc,hd'⟩:=PySem.W.any_some hh;have hx:s.heap.get? x=some ⟨.ref C,some dx,.plain,#[]⟩:=I.obj;refine wpAny_bind (wpAny_pure (wpAny_bind (wpAny_bind (wpAny_loadPart hx (wpAny_bind (PySem.W.Looks.here (s:={ s with toks:=s.toks+1 }) (PySem.W.looks_clsIn X hc) ?_))))));rw[hd'];refine wpAny_pure (a:=some dx) (wpAny_bind (wpAny_pure (wpAny_bind ?_)));refine wpAny_nsSet1 (s:={ s with toks:=s.toks+1 }) I.ns λh' hn2 hs2=>?_
 obtain ⟨oD,esD,epD,hoD,hdD,hcD⟩:=hn2.count (PySem.Within.cons name v hw);refine wpAny_bind (wpAny_lookBehind hoD (by rw[hdD];exact pastItsLine_dict (aj hcD (by rw[bq];lia))) ?_);exact wpAny_pure (h _ ⟨(hs2.2 _ (Ne.symm I.ne)).trans I.obj,hn2,I.ne⟩ hs2)
theorem Fc (X:K.In s.heap) (hm:PySem.W.makesIn K C=true)
  (hi:PySem.W.findIn K (.ref C) "__init__"=some (some (.ref f))) (hf:PySem.W.typeIn K (.ref f)=some (.type "function"))
  (h:codeAny (model prog w) (A.under (.builtin "type.__call__" ⟨.ref C :: vs,kw⟩)) (.call (.ref f) ⟨.ref (s.heap.objs.size+1) :: vs,kw⟩) (PySem.W.InitBack (s.heap.objs.size+1) R)
   { s with heap:=(s.heap.push PySem.W.emptyDict).push (PySem.W.instObj C s.heap.objs.size) }) :
  codeAny (model prog w) A (.call (.ref C) ⟨vs,kw⟩) R s:=by
 obtain ⟨hh,g,d,t,os⟩:=s;exact PySem.W.make_core (PySem.W.makes_of X hm) (PySem.W.looks_findIn X hi) (λself=>PySem.W.bind_fn X self hf) (.inl rfl) h
end
def bU (f:Str) (v:V):List (Str×V)->List (Str×V)
 | []=>[(f,v)]
 | (g,x) :: r=>if g=f then (g,v) :: r else (g,x) :: bU f v r
theorem bE (f g:Str) (v:V):∀fs:List (Str×V),(bU f v fs).lookup g=if g=f then some v else fs.lookup g
 | []=>by
  show List.lookup g [(f,v)]=_
  by_cases h:g=f
  ·have hb:(g == f)=true:=beq_iff_eq.mpr h;simp only[List.lookup,hb,if_pos h]
  ·have hb:(g == f)=false:=beq_eq_false_iff_ne.mpr h;simp only[List.lookup,hb,if_neg h]
 | (k,x) :: r=>by
  have ih:=bE f g v r;rw[show bU f v ((k,x) :: r)=(if k=f then (k,v) :: r else (k,x) :: bU f v r) from rfl];by_cases hk:k=f
  ·rw[if_pos hk];by_cases h:g=k
   ·have hb:(g == k)=true:=beq_iff_eq.mpr h;simp only[List.lookup,hb,if_pos (h.trans hk)]
   ·have hb:(g == k)=false:=beq_eq_false_iff_ne.mpr h;simp only[List.lookup,hb,if_neg (λe:g=f=>h (e.trans hk.symm))]
  ·rw[if_neg hk];by_cases h:g=k
   ·have hb:(g == k)=true:=beq_iff_eq.mpr h;simp only[List.lookup,hb,if_neg (λe:g=f=>hk (h.symm.trans e))]
   ·have hb:(g == k)=false:=beq_eq_false_iff_ne.mpr h;simp only[List.lookup,hb];exact ih
theorem sJ (f:Str) (v:V):∀fs:List (Str×V),f∈(bU f v fs).map (·.1)/\∀g,g∈fs.map (·.1)->g∈(bU f v fs).map (·.1)
 | []=>⟨by simp [bU],λg h=>by simp at h⟩
 | (k,x) :: r=>by
  obtain ⟨i1,i2⟩:=sJ f v r;rw[show bU f v ((k,x) :: r)=(if k=f then (k,v) :: r else (k,x) :: bU f v r) from rfl];by_cases hk:k=f
  ·rw[if_pos hk];subst hk;exact ⟨by simp,λg h=>by simpa using h⟩
  ·rw[if_neg hk];refine ⟨?_,λg h=>?_⟩
   ·rw[fV];exact bF _ i1
   ·rw[fV] at h ⊢;rcases aE.mp h with e | e
    ·exact aE.mpr (.inl e)
    ·exact bF _ (i2 g e)
theorem tj (f:Str) (v:V):∀fs:List (Str×V),(bU f v fs).length<=fs.length+1
 | []=>by simp [bU]
 | (k,x) :: r=>by
  have ih:=tj f v r;rw[show bU f v ((k,x) :: r)=(if k=f then (k,v) :: r else (k,x) :: bU f v r) from rfl];by_cases hk:k=f
  ·rw[if_pos hk,bq,bq];lia
  ·rw[if_neg hk,bq,bq];lia
theorem Cu.some_of (r:Cu (some v) o):∃u,o=some u/\RelV v u:=by
 cases o with
 | none=>exact (show False from r).elim
 | some u=>exact ⟨u,rfl,r⟩
theorem Ea (r:RelV v u):PySem.W.handedIn u=true:=by
 cases v with
 | non=>cases (show u=Value.none from r);rfl
 | bl b=>cases (show u=Value.bool b from r);rfl
 | int i=>obtain ⟨t,e⟩:=(show ∃t,u=Value.int i t from r);cases e;rfl
 | str x=>obtain ⟨t,e⟩:=(show ∃t,u=Value.str x t from r);cases e;rfl
 | byt b=>obtain ⟨t,e⟩:=(show ∃t,u=Value.bytes b t from r);cases e;rfl
 | flt b=>obtain ⟨t,e⟩:=(show ∃t,u=Value.float b t from r);cases e;rfl
 | ref a=>cases (show u=Value.ref a from r);rfl
 | ty n=>cases (show u=Value.type n from r);rfl
section
variable {P:Program} {w:World} {H H':Hp} {h h':Heap} {a C dx:Addr} {fs fs':List (Str×V)}
theorem z5 (hok:uD P w H h) (e:H a=some (.ins C dx fs)):∃mA,Eh h a dx C mA/\(∀f,Cu (fs.lookup f) (mA f))/\PySem.Within mA (fs.map (·.1))/\fs.length<=1000/\H dx=some (.own a):=by
 obtain ⟨d,z,ne,ob,mA,n,r,q⟩:=(show fQ P w H h a (.ins C dx fs) from hok a _ e);exact ⟨mA,⟨ob,n,ne⟩,r,q,z,d⟩
end
structure F1 (K:FG9) (C:Addr):Prop where
 pg:PySem.W.plainGet K C Str.empty=true
 hd:PySem.W.hasDictIn K C=true
 po:PySem.W.plainOver K C=true
 sa:PySem.W.findIn K (.ref C) "__setattr__"=some (some (.builtin "object.__setattr__"))
theorem F1.get {K:FG9} (c:F1 K C) (f:Str):PySem.W.plainGet K C f=true:=c.pg
def gL (K:FG9) (C:Addr) (f:Str):Prop:=PySem.W.findIn K (.ref C) f=some none
theorem gL.taker {K:FG9} (n:gL K C f):PySem.W.takerIn K C f=some none:=by
 unfold PySem.W.takerIn;rw[show PySem.W.findIn K (.ref C) f=some none from n];rfl
section
variable {X:Cx} {pins:List (Addr×Obj)} {σ:St} {H:Hp} {s:Shared} {a C dx:Addr} {fs:List (Str×V)} {f:Str} {v:V} {A:Around} {E:Value->Shared->Prop}
theorem Ck (I:Inv X pins σ H s) (e:H a=some (.ins C dx fs)) (c:F1 X.K C) (n:gL X.K C f) (l:fs.lookup f=some v)
  (h:∀u s',Inv X pins σ H s'->RelV v u->Q u s'):wpAny (model X.prog X.w) A (getAttr (.ref a) f b) Q E s:=by
 obtain ⟨mA,O,r,_,_,_⟩:=z5 I.hok e;obtain ⟨u,hu,ru⟩:=Cu.some_of (v:=v) (o:=mA f) (by rw[<- l];exact r f);exact get_map I.kIn O (c.get f) c.hd n hu (Ea ru) (h u _ (I.tok _) ru)
theorem BJ (I:Inv X pins σ H s) (e:H a=some (.ins C dx fs)) (c:F1 X.K C) (n:gL X.K C f) (hl:fs.length < 1000) (ry:RelV y u)
  (h:∀s',Inv X pins σ (upd H a (.ins C dx (bU f y fs))) s'->Q () s'):wpAny (model X.prog X.w) A (setAttr (.ref a) f u) Q E s:=by
 obtain ⟨mA,O,r,wi,_,ho⟩:=z5 I.hok e;have hz:(fs.map (·.1)).length<=sizeLine:=by rw[ag,sizeLine_eq];lia
 refine Gz I.kIn O c.sa c.po n.taker c.hd wi hz λh' O' sb=>h _ ?_
 have hd:∃o,h'.get? dx=some o:=let ⟨o,_,_,e',_⟩:=O'.ns;⟨o,e'⟩
 refine I.write (x:=a) (e:=dx) (by rw[e];exact True.intro) (.inr ho) (λb q hb z=>(sb.2 b hb).trans z) hd ?_;refine ⟨by rw[a7 O.ne];exact ho,?_,O.ne,O'.obj,_,O'.ns,λg=>?_,λg hg=>?_⟩
 ·have:=tj f y fs;lia
 ·show Cu ((bU f y fs).lookup g) (if g=f then some u else mA g)
  rw[bE];by_cases q:g=f
  ·rw[if_pos q,if_pos q];exact ry
  ·rw[if_neg q,if_neg q];exact r g
 ·by_cases q:g=f
  ·rw[q];exact (sJ f y fs).1
  ·refine (sJ f y fs).2 g (wi g λz=>hg ?_);show (if g=f then some u else mA g)=none
   rw[if_neg q];exact z
theorem Inv.made (I:Inv X pins σ H s):Inv X pins σ (upd (upd H s.heap.objs.size (.own (s.heap.objs.size+1))) (s.heap.objs.size+1) (.ins C s.heap.objs.size []))
  { s with heap:=(s.heap.push PySem.W.emptyDict).push (PySem.W.instObj C s.heap.objs.size) }:=by
 have e1:(s.heap.push PySem.W.emptyDict).get? s.heap.objs.size=some PySem.W.emptyDict:=Heap.get?_push_size s.heap rfl
 have e2:((s.heap.push PySem.W.emptyDict).push (PySem.W.instObj C s.heap.objs.size)).get? (s.heap.objs.size+1)=some (PySem.W.instObj C s.heap.objs.size):=by
  have:=Heap.get?_push_size (s.heap.push PySem.W.emptyDict) (o:=PySem.W.instObj C s.heap.objs.size) rfl;rwa [Heap.size_push] at this
 have e3:(s.heap.push PySem.W.emptyDict).Ns s.heap.objs.size (λ_=>none):=⟨PySem.W.emptyDict,#[],_,e1,rfl,(λe he=>absurd he (by simp)),λ_=>rfl⟩;have I1:=I.laid (a:=s.heap.objs.size) (o:=.own (s.heap.objs.size+1)) (h':=s.heap.push PySem.W.emptyDict) (t':=s.toks) (λb u q=>Heap.get?_push_of_some _ q) (ao _) ⟨_,e1⟩;refine I1.laid (a:=s.heap.objs.size+1) (o:=.ins C s.heap.objs.size []) (t':=s.toks) (λb u q=>Heap.get?_push_of_some _ q) (Nat.le_of_eq (Heap.size_push _ _)) ?_;have ne:s.heap.objs.size≠s.heap.objs.size+1:=cm (dA _);refine ⟨by rw[a7 ne,aH],bo _,ne,e2,λ_=>none,(Heap.Ns1.of_empty e3).at λo q=>Heap.get?_push_of_some _ q,λ_=>True.intro,λy hy=>absurd rfl hy⟩
theorem HY (hb:attributeBase e f env (eval e env)=eval e env)
  (h:wpAny (model prog w) A (eval e env) (λo s₁=>wpAny (model prog w) A (getAttr o f true) Q E s₁) E s):wpAny (model prog w) A (eval (.Attribute e f pos) env) Q E s :=
 Attribute_any_ h (by rw[arm_eval_Attribute,hb])
end
def Jf (K:FG9) (ta:TE) (f:Str):TE:=λσ H Q=>ta σ H λx H1=>∃a C dx fs v,x=.ref a/\H1 a=some (.ins C dx fs)/\F1 K C/\gL K C f/\fs.lookup f=some v/\Q v H1
def KY (K:FG9) (ta tv:TE) (f:Str):TS:=λD σ H=>tv σ H λy H1=>ta σ H1 λx H2=>∃a C dx fs,x=.ref a/\H2 a=some (.ins C dx fs)/\F1 K C/\gL K C f/\fs.length < 1000 /\
 D.nx σ (upd H2 a (.ins C dx (bU f y fs)))
section
variable {X:Cx} {o e value:Expr} {f:Str} {pos pos' tpos:Pos} {ta tv:TE}
theorem eT (he:PE X e ta) (hb:attributeBase e f X.env (eval e X.env)=eval e X.env):PE X (.Attribute e f pos) (Jf X.K ta f):=by
 intro pins s σ H Q I h;refine HY hb (eJ (he pins s σ H _ I h) λu s1 ⟨x,H1,I1,rx,a,C,dx,fs,v,ex,ea,c,n,l,q⟩=>?_);subst ex;obtain rfl:u=Value.ref a:=rx;exact Ck I1 ea c n l λu' s2 I2 ru=>⟨v,H1,I2,ru,q⟩
theorem sD (ha:PE X o ta) (hv:PE X value tv) (hs:swapsWith value (some (.Attribute o f pos')) pos.line X.env=pure false):PS X (.Assign [.Attribute o f pos'] value pos) (KY X.K ta tv f):=by
 intro pins s σ H D I h;refine plainObj_wpAny_Assign_Attribute (eJ (hv pins s σ H _ I h) λu s1 ⟨y,H1,I1,ry,q⟩=>eJ (ha pins s1 σ H1 _ I1 q) λov s2 ⟨x,H2,I2,rx,a,C,dx,fs,ex,ea,c,n,l,q2⟩=>?_) hs;subst ex;obtain rfl:ov=Value.ref a:=rx;exact BJ I2 ea c n l ry λs3 I3=>⟨σ,_,I3,q2⟩
end
section
variable {X:Cx} {pins:List (Addr×Obj)} {σ:St} {H:Hp} {s:Shared} {A:Around} {E:Value->Shared->Prop} {Q:Value->Shared->Prop} {c:Value} {b:Bool}
inductive sS (K:FG9) (H:Hp):V->Value->Prop where
 | non:sS K H .non (.type "NoneType")
 | bl (x:Bool):sS K H (.bl x) (.type "bool")
 | int (i:Int):sS K H (.int i) (.type "int")
 | str (x:Str):sS K H (.str x) (.type "str")
 | flt (x:UInt64):sS K H (.flt x) (.type "float")
 | lst {a:Addr} {xs:List V} (e:H a=some (.lst xs)):sS K H (.ref a) (.type "list")
 | frz {a:Addr} {o:Obj} {xs:List V} (e:H a=some (.frz o (.lst xs))):sS K H (.ref a) (.type "list")
 | tup {a:Addr} {xs:List V} (e:H a=some (.tup xs)):sS K H (.ref a) (.type "tuple")
 | dK {a:Addr} {kvs:List (Key×V)} (e:H a=some (.dK kvs)):sS K H (.ref a) (.type "dict")
 | dT {a:Addr} {kvs:List (List Key×V)} (e:H a=some (.dT kvs)):sS K H (.ref a) (.type "dict")
 | ins {a C dx:Addr} {fs:List (Str×V)} (e:H a=some (.ins C dx fs)) (cl:F1 K C) (ha:PySem.W.findIn K (.ref C) "__class__"=some (some (.builtin "object.__class__")))
   (hn:PySem.W.specialIn K (.builtin "object.__class__") "__get__"=some (some (.builtin "getset_descriptor.__get__"))) (htk:PySem.W.takesIn K (.builtin "object.__class__")=some true)
   (hm:PySem.W.mroIn K C (.type "object")=some true):sS K H (.ref a) (.ref C)
theorem ye (I:Inv X pins σ H s) (rx:RelV x u) (ty:sS X.K H x t) (e:PySem.W.kitOne X.K t c=some b) (h:∀tk,Q (.bool b) { s with toks:=tk }) :
  wpAny (model X.prog X.w) A (call (.builtin "isinstance") [u,c]) Q E s:=by
 cases ty with
 | non=>cases (show u=Value.none from rx);exact cN PySem.W.kitx_none I.kIn True.intro e (λz=>nomatch z) h
 | bl y=>cases (show u=Value.bool y from rx);exact cN PySem.W.kitx_bool I.kIn True.intro e (λz=>nomatch z) h
 | int i=>obtain ⟨t,q⟩:=(show ∃t,u=Value.int i t from rx);cases q;exact cN PySem.W.kitx_int I.kIn True.intro e (λz=>nomatch z) h
 | str y=>obtain ⟨t,q⟩:=(show ∃t,u=Value.str y t from rx);cases q;exact cN PySem.W.kitx_str I.kIn True.intro e (λz=>nomatch z) h
 | flt y=>obtain ⟨t,q⟩:=(show ∃t,u=Value.float y t from rx);cases q;exact cN PySem.W.kitx_float I.kIn True.intro e (λz=>nomatch z) h
 | @lst a xs ea =>
  cases (show u=Value.ref a from rx);obtain ⟨_,_,n,_,h1⟩:=(show fQ X.prog X.w H s.heap a (.lst xs) from I.hok a _ ea);exact cN PySem.W.kitx_list I.kIn ⟨_,h1,rfl⟩ e (λz=>nomatch z) h
 | @frz a ob xs ea =>
  cases (show u=Value.ref a from rx);obtain ⟨_,_,_,n,_,h1⟩:=(show fQ X.prog X.w H s.heap a (.frz ob (.lst xs)) from I.hok a _ ea);exact cN PySem.W.kitx_list I.kIn ⟨_,h1,rfl⟩ e (λz=>nomatch z) h
 | @tup a xs ea =>
  cases (show u=Value.ref a from rx);obtain ⟨_,_,_,p⟩:=(show fQ X.prog X.w H s.heap a (.tup xs) from I.hok a _ ea);obtain ⟨o,h1,h2,_⟩:=p;exact cN PySem.W.kitx_tuple I.kIn ⟨o,h1,h2⟩ e (λz=>nomatch z) h
 | @dK a kvs ea =>
  cases (show u=Value.ref a from rx);obtain ⟨_,_,vs,_,p⟩:=(show fQ X.prog X.w H s.heap a (.dK kvs) from I.hok a _ ea);obtain ⟨o,es,ep,h1,h2,_⟩:=p;exact cN PySem.W.kitx_dict I.kIn ⟨o,h1,h2.1⟩ e (λz=>nomatch z) h
 | @dT a kvs ea =>
  cases (show u=Value.ref a from rx);obtain ⟨_,_,xs,_,o,es,ep,h1,h2,_⟩:=(show fQ X.prog X.w H s.heap a (.dT kvs) from I.hok a _ ea);exact cN PySem.W.kitx_dict I.kIn ⟨o,h1,h2.1⟩ e (λz=>nomatch z) h
 | @ins a C dx fs ea cl ha hn htk hm =>
  cases (show u=Value.ref a from rx);obtain ⟨mA,O,_⟩:=z5 I.hok ea;obtain ⟨od,J,_⟩:=O.look;exact cN (PySem.W.kitx_own (cl.get _) cl.hd ha hn htk hm) I.kIn J e (λz=>nomatch z) h
end
structure ja (k:Nat) (A:Around):Prop where
 hd:A.handled=none
 dp:A.depth+3*k+5 < recursionLimit
 un:A.units+16*k+200 < cLine
theorem ja.mono (r:ja k A) (h:j<=k):ja j A:=⟨r.hd,by have:=r.dp;lia,by have:=r.un;lia⟩
theorem ja.deeper (r:ja (k+1) A) (env:Env):ja k (A.deeper env) :=
 ⟨r.hd,by have:=r.dp;show A.depth+1+3*k+5 < _;lia,by have:=r.un;show A.units+3+16*k+200 < _;lia⟩
theorem Cd {A:Around}:(A.under (.builtin "type.__call__" ⟨.ref C :: us,kw⟩)).depth=A.depth+1:=by
 first | rfl | simp [Around.under,Code.weight,Code.isCreation,Code.isGuard,Code.isCaller,Code.frames,Code.isFrame,guardIds]
theorem Cc {A:Around}:(A.under (.builtin "type.__call__" ⟨.ref C :: us,kw⟩)).units=A.units+1:=by
 first | rfl | simp [Around.under,Code.cUnits,Code.frames,Code.isFrame]
theorem ja.make (r:ja (k+1) A) (C:Addr) (us:List Value) (kw:List (Str×Value)):ja k (A.under (.builtin "type.__call__" ⟨.ref C :: us,kw⟩)) :=
 ⟨r.hd,by have:=r.dp;rw[Cd];lia,by have:=r.un;rw[Cc];lia⟩
theorem ja.depth (r:ja k A):A.depth < recursionLimit:=by have:=r.dp;lia
theorem ja.units (r:ja k A):A.units+64 < cLine:=by have:=r.un;lia
def DH:TA:=λ_ H Q=>Q [] H
def mV (ta:TE) (tr:TA):TA:=λσ H Q=>ta σ H λx H1=>tr σ H1 λxs H2=>Q (x :: xs) H2
section
variable {X:Cx} {e:Expr} {es:List Expr} {te:TE} {t:TA} {pos:Pos}
theorem ai:PA X [] DH:=λ_ _ _ _ H Q I h=>Calls.spliced_nil ⟨[],H,I,.nil,h⟩
theorem ae (ha:PE X e te) (hr:PA X es t) (hs:starEach (e :: es) X.env=(false,eval e X.env) :: starEach es X.env:=by rfl):PA X (e :: es) (mV te t):=by
 intro pos pins s σ H Q I h;rw[hs];show wpAny _ _ (spliced ((false,eval e X.env) :: backTo pos (starEach es X.env))) _ _ s
 refine Calls.spliced_cons (eJ (ha pins s σ H _ I h) λu s1 ⟨x,H1,I1,r1,q1⟩=>?_);exact eJ (hr pos pins s1 σ H1 _ I1 q1) λus s2 ⟨xs,H2,I2,r2,q2⟩=>⟨x :: xs,H2,I2,.cons r1 r2,q2⟩
def Kz (t:TA):TE:=λσ H Q=>t σ H λxs H1=>xs.length<=sizeLine/\∀p,H1 p=none->Q (.ref p) (upd H1 p (.tup xs))
def KI (t:TA):TE:=λσ H Q=>t σ H λxs H1=>xs.length<=sizeLine/\∀p,H1 p=none->Q (.ref p) (upd H1 p (.lst xs))
theorem cy (h:PA X es t):PE X (.Tuple es x1 pos) (Kz t):=by
 intro pins s σ H Q I hq;refine wpAny_Tuple_spliced (eJ (h pos pins s σ H _ I hq) λus s1 ⟨xs,H1,I1,r,z,q⟩=>⟨by rw[<- r.length];exact z,?_⟩);have hf:H1 s1.heap.objs.size=none:=I1.hok.fresh (ao _);refine ⟨.ref s1.heap.objs.size,upd H1 s1.heap.objs.size (.tup xs),I1.laid (t':=s1.toks) (λb u e=>Heap.get?_push_of_some _ e) (ao _) ?_,rfl,q _ hf⟩;exact ⟨z,us,r,⟨_,Heap.get?_push_size _ rfl,rfl,_,rfl⟩⟩
theorem dJ (h:PA X es t):PE X (.List es pos) (KI t):=by
 intro pins s σ H Q I hq;refine wpAny_List_spliced (eJ (h pos pins s σ H _ I hq) λus s1 ⟨xs,H1,I1,r,z,q⟩=>⟨by rw[<- r.length];exact z,?_⟩);have hf:H1 s1.heap.objs.size=none:=I1.hok.fresh (ao _);refine ⟨.ref s1.heap.objs.size,upd H1 s1.heap.objs.size (.lst xs),I1.laid (t':=s1.toks) (λb u e=>Heap.get?_push_of_some _ e) (ao _) ?_,rfl,q _ hf⟩;exact ⟨z,us,0,r,Heap.get?_push_size _ rfl⟩
end
abbrev Sp:=List V->Hp->VK->XK->Prop
abbrev FT:=List Env->Hp->Shared->XK->Value->Shared->Prop
structure Cy (P:Program) (w:World) (K:FG9) (mg:Str->Option Value) (base:Heap) (A:Around) (outer:List Env) (s:Shared) (H:Hp):Prop where
 frames:A.frames=some outer
 mod:Mod K mg base
 bs:∀b o,base.get? b=some o->s.heap.get? b=some o/\H b=none
 bsz:base.objs.size<=s.heap.objs.size
 funs:s.heap.FunFrames base outer
 frf:∀b∈Ek outer,H b=none
 hok:uD P w H s.heap
 bare:AllBare s.gens
def CE (outer:List Env) (P:Program) (w:World) (H:Hp) (s:Shared) (Q:VK) (u:Value) (s':Shared):Prop :=
 ∃v H',s'.os=s.os/\AllBare s'.gens/\Un (Ek outer) [] H H' s.heap s'.heap/\uD P w H' s'.heap/\RelV v u/\Q v H'
def CR (CX:FT) (outer:List Env) (P:Program) (w:World) (H:Hp) (s:Shared) (Q:VK) (E:XK) (r:Result) (s':Shared):Prop :=
 match r with
 | .ok (.ret u)=>CE outer P w H s Q u s'
 | .ok _=>False
 | .error e=>CX outer H s E e s'
structure cz (P:Program) (w:World) (K:FG9) (mg:Str->Option Value) (base:Heap) (CX:FT) (k:Nat) (f:Addr) (fd:FuncData) (ps:List Str) (sp:Sp):Prop where
 len:∀vs H Q E,sp vs H Q E->vs.length=ps.length
 run:∀(A:Around) (outer:List Env) (s:Shared) (H:Hp) (args:Args) (us:List Value) (vs:List V) (Q:VK) (E:XK),ja k A->Cy P w K mg base A outer s H->BindsTo s fd args (ps.zip us)->cf vs us->sp vs H Q E →
  codeAny (model P w) A (.call (.ref f) args) (CR CX outer P w H s Q E) s
theorem Cy.make {K:FG9} (e:Cy P w K mg base A outer s H) (C:Addr) (us:List Value) (kw:List (Str×Value)) :
  Cy P w K mg base (A.under (.builtin "type.__call__" ⟨.ref C :: us,kw⟩)) outer s H:=⟨by first | exact e.frames | (simpa [Around.under,Code.envs,Code.isFrame,pushEnvs] using e.frames),e.mod,e.bs,e.bsz,e.funs,e.frf,e.hok,e.bare⟩
section
variable {X:Cx} {pins:List (Addr×Obj)} {σ:St} {H:Hp} {s s':Shared}
theorem Inv.env0 (I:Inv X pins σ H s):Cy X.prog X.w X.K X.mg X.base X.A X.stack s H :=
 ⟨I.ok.frames,I.ok.mod,I.bs,aj I.ok.bsz I.sz,I.stack,I.stkFree,I.hok,I.bare⟩
theorem Inv.after (I:Inv X pins σ H s) (h:CE X.stack X.prog X.w H s Q u s'):EP X pins σ Q u s':=by
 obtain ⟨v,H',os,bare,un,hok,r,q⟩:=h;obtain ⟨hh,g,d,t,os'⟩:=s';obtain rfl:os'=s.os:=os;exact ⟨v,H',I.call (h':=hh) (g':=g) (d':=d) (t':=t) (ch:=[]) un hok bare (λb z=>absurd z (by simp)),r,q⟩
end
def Ey (sp:Sp) (dvs:List V) (E:XK) (t:TA):TE:=λσ H Q=>t σ H λvs H1=>sp (vs++dvs) H1 Q E
def Ip (C:Addr) (sp:Sp) (dvs:List V) (E:XK) (t:TA):TE:=λσ H Q=>t σ H λvs H1=>∀x dx,H1 x=none->H1 dx=none->dx≠x →
 sp (.ref x :: (vs++dvs)) (upd (upd H1 dx (.own x)) x (.ins C dx [])) (λv H2=>v=.non/\Q (.ref x) H2) E
def Binds (K:FG9) (fd:FuncData) (ps:List Str) (ds:List Value):Prop :=
 ∀(s:Shared) (us:List Value),K.In s.heap->(us++ds).length=ps.length->BindsTo s fd ⟨us,[]⟩ (ps.zip (us++ds))
theorem Binds.all {K:FG9} (h:∀us:List Value,us.length=ps.length->bindArgs fd ⟨us,[]⟩=pure (ps.zip us)):Binds K fd ps []:=λs us _ hl=>by
 rw[w5] at hl ⊢;exact .of_eq (h us hl)
def wN (CX:FT) (X:Cx) (E:XK):Prop:=∀(pins:List (Addr×Obj)) (σ:St) (H:Hp) (s:Shared) (e:Value) (s':Shared),Inv X pins σ H s->CX X.stack H s E e s'->X.xe e s'
section
variable {X:Cx} {CX:FT} {k:Nat} {f C:Addr} {fd:FuncData} {ps:List Str} {sp:Sp} {dvs:List V} {ds:List Value} {E:XK} {x m:Str} {p pos apos:Pos} {e o:Expr} {es:List Expr} {ta:TE} {t:TA}
theorem Jk {σ:St} (F:cz X.prog X.w X.K X.mg X.base CX k f fd ps sp) (hr:ja k X.A) (hb:Binds X.K fd ps ds) (hd:cf dvs ds) (hx:wN CX X E)
  (I:Inv X pins σ H s) (r:cf vs us) (h:sp (vs++dvs) H Q E):wpAny (model X.prog X.w) X.A (call (.ref f) us) (EP X pins σ Q) X.xe s:=by
 have r2:cf (vs++dvs) (us++ds):=r.append hd;have hl:(us++ds).length=ps.length:=by rw[<- r2.length];exact F.len _ _ _ _ h
 refine wpAny_call (codeAny_mono (F.run X.A X.stack s H ⟨us,[]⟩ (us++ds) (vs++dvs) Q E hr I.env0 (hb s us I.kIn hl) r2 h) λr s' hq=>?_);cases r with
 | error e=>exact hx pins σ H s e s' I hq
 | ok fl =>
  cases fl with
  | ret u=>exact I.after hq
  | next=>exact False.elim hq
  | brk=>exact False.elim hq
  | cont=>exact False.elim hq
theorem HB (F:cz X.prog X.w X.K X.mg X.base CX k f fd ps sp) (hr:ja k X.A) (hg:Gl X x) (hm:X.mg x=some (.ref f)) (hk:PySem.W.keepIn X.K (.ref f)=true) (hb:Binds X.K fd ps ds) (hd:cf dvs ds) (hx:wN CX X E)
  (ha:PA X (e :: es) t) (hdb:(x == ("__debug__":Str))=false:=by decide) (he:starEach (e :: es) X.env=(false,eval e X.env) :: starEach es X.env:=by rfl) (hpl:(backTo pos (starEach es X.env)).any (·.1)=false:=by rfl) :
  PE X (.Call (.Name x p) (e :: es) [] pos) (Ey sp dvs E t):=by
 intro pins s σ H Q I h;refine wpAny_Call_Name_kw (zU I hg hm ?_ hdb);refine PySem.W.callWith_K (h₀:=X.base) I.ok.mod.kin hk (eJ (ha pos pins s σ H _ I h) λus s1 ⟨vs,H1,I1,r,q⟩=>⟨I1.kIn,?_⟩) he hpl;exact Jk F hr hb hd hx I1 r q
structure Mk (K:FG9) (C f:Addr):Prop where
 makes:PySem.W.makesIn K C=true
 init:PySem.W.findIn K (.ref C) "__init__"=some (some (.ref f))
 fn:PySem.W.isFn K (.ref f)=true
 kp:PySem.W.keepIn K (.ref C)=true
theorem EI {σ:St} (M:Mk X.K C f) (F:cz X.prog X.w X.K X.mg X.base CX k f fd ps sp) (hr:ja (k+1) X.A) (hb:Binds X.K fd ps ds) (hd:cf dvs ds)
  (hx:wN CX X E) (I:Inv X pins σ H s) (r:cf vs us)
  (h:∀x dx,H x=none->H dx=none->dx≠x->sp (.ref x :: (vs++dvs)) (upd (upd H dx (.own x)) x (.ins C dx [])) (λv H2=>v=.non/\Q (.ref x) H2) E) :
  wpAny (model X.prog X.w) X.A (call (.ref C) us) (EP X pins σ Q) X.xe s:=by
 have hq:=h (s.heap.objs.size+1) s.heap.objs.size (I.hok.fresh (mO _)) (I.hok.fresh (ao _)) (cm (dA _));have I2:=Inv.made (C:=C) I;have r2:cf (V.ref (s.heap.objs.size+1) :: (vs++dvs)) (Value.ref (s.heap.objs.size+1) :: (us++ds)):=.cons rfl (r.append hd)
 have hl:(Value.ref (s.heap.objs.size+1) :: us++ds).length=ps.length:=by
  have e:=r2.length;rw[F.len _ _ _ _ hq] at e;exact e.symm
 refine wpAny_call (Fc (f:=f) I.kIn M.makes M.init (beq_iff_eq.mp M.fn) (codeAny_mono (F.run _ X.stack _ _ ⟨Value.ref (s.heap.objs.size+1) :: us,[]⟩ (Value.ref (s.heap.objs.size+1) :: (us++ds)) _ _ E (hr.make C us [])
  (I2.env0.make C us []) (hb _ (Value.ref (s.heap.objs.size+1) :: us) I2.kIn hl) r2 hq) λr s' hq'=>?_))
 cases r with
 | error e=>exact hx pins σ _ _ e s' I2 hq'
 | ok fl =>
  cases fl with
  | ret u =>
   obtain ⟨v,H',I3,rv,ev,q3⟩:=I2.after hq';subst ev;exact ⟨rv,⟨V.ref (s.heap.objs.size+1),H',I3,rfl,q3⟩⟩
  | next=>exact False.elim hq'
  | brk=>exact False.elim hq'
  | cont=>exact False.elim hq'
theorem CW (M:Mk X.K C f) (F:cz X.prog X.w X.K X.mg X.base CX k f fd ps sp) (hr:ja (k+1) X.A) (hg:Gl X x) (hm:X.mg x=some (.ref C)) (hb:Binds X.K fd ps ds) (hd:cf dvs ds) (hx:wN CX X E)
  (ha:PA X (e :: es) t) (hdb:(x == ("__debug__":Str))=false:=by decide) (he:starEach (e :: es) X.env=(false,eval e X.env) :: starEach es X.env:=by rfl) (hpl:(backTo pos (starEach es X.env)).any (·.1)=false:=by rfl) :
  PE X (.Call (.Name x p) (e :: es) [] pos) (Ip C sp dvs E t):=by
 intro pins s σ H Q I h;refine wpAny_Call_Name_kw (zU I hg hm ?_ hdb);refine PySem.W.callWith_K (h₀:=X.base) I.ok.mod.kin M.kp (eJ (ha pos pins s σ H _ I h) λus s1 ⟨vs,H1,I1,r,q⟩=>⟨I1.kIn,?_⟩) he hpl;exact EI M F hr hb hd hx I1 r q
end
structure aU (N P:List Str) (sc:Scope):Prop where
 kind:sc.kind=.function
 co:sc.isCoroutine=false
 gen:sc.isGenerator=false
 nd:N.Nodup
 pre:N.take P.length=P
 par:∀x∈P,sc.names.lookup x=some .local\/sc.names.lookup x=some .cell
 nofree:∀y∈sc.names,y.2≠.free
theorem yB {kindOf:Str->Option NameKind} {x:Str}:∀{binds:List (Str×Value)} {m:Str->Option Value},(∀v,(x,v)∉binds)->bindL kindOf binds m x=m x
 | [],_,_=>rfl
 | (n,v) :: r,m,h=>by
  unfold bindL;rw[yB λw hw=>h w (bF _ hw)]
  split
  ·have:x≠n:=by rintro rfl;exact h v cM
   simp [this]
  ·rfl
theorem yD {kindOf:Str->Option NameKind} {x:Str}:∀{binds:List (Str×Value)} {m:Str->Option Value},(∀v,(x,v)∉binds)->bindC kindOf binds m x=m x
 | [],_,_=>rfl
 | (n,v) :: r,m,h=>by
  unfold bindC;rw[yD λw hw=>h w (bF _ hw)]
  split
  ·rfl
  ·have:x≠n:=by rintro rfl;exact h v cM
   simp [this]
theorem yC {kindOf:Str->Option NameKind} {x:Str} {v:Value}:∀{P:List Str} {vs:List Value} {i:Nat} {m:Str->Option Value},P.Nodup->P[i]?=some x->vs[i]?=some v->kindOf x=some .local →
  bindL kindOf (P.zip vs) m x=some v
 | [],_,_,_,_,h,_,_=>by simp at h
 | _ :: _,[],_,_,_,_,h,_=>by simp at h
 | p :: P,w :: vs,0,m,nd,h1,h2,hk=>by
  simp at h1 h2;subst h1;subst h2;show bindL kindOf ((p,w) :: P.zip vs) m p=_
  unfold bindL;rw[yB λv hv=>(dk.mp nd).1 (F2 hv).1,if_pos hk];simp
 | p :: P,w :: vs,i+1,m,nd,h1,h2,hk=>by
  show bindL kindOf ((p,w) :: P.zip vs) m x=_
  unfold bindL;exact yC (i:=i) (dk.mp nd).2 (by simpa using h1) (by simpa using h2) hk
theorem yE {kindOf:Str->Option NameKind} {x:Str} {v:Value}:∀{P:List Str} {vs:List Value} {i:Nat} {m:Str->Option Value},P.Nodup->P[i]?=some x->vs[i]?=some v->kindOf x≠some .local →
  bindC kindOf (P.zip vs) m x=some v
 | [],_,_,_,_,h,_,_=>by simp at h
 | _ :: _,[],_,_,_,_,h,_=>by simp at h
 | p :: P,w :: vs,0,m,nd,h1,h2,hk=>by
  simp at h1 h2;subst h1;subst h2;show bindC kindOf ((p,w) :: P.zip vs) m p=_
  unfold bindC;rw[yD λv hv=>(dk.mp nd).1 (F2 hv).1,if_neg hk];simp
 | p :: P,w :: vs,i+1,m,nd,h1,h2,hk=>by
  show bindC kindOf ((p,w) :: P.zip vs) m x=_
  unfold bindC;exact yE (i:=i) (dk.mp nd).2 (by simpa using h1) (by simpa using h2) hk
def start (N:List Str) (vs:List V):St:=vs.map some++List.replicate (N.length - vs.length) none
def Ed (CX:FT) (P:Program) (w:World) (K:FG9) (mg:Str->Option Value) (base:Heap) (N:List Str) (qual:Str) (scope:Scope) (f:Addr) (cd:Value) (A:Around) (outer:List Env) (s:Shared) (H:Hp) (E:XK):Cx where
 prog:=P
 w:=w
 K:=K
 mg:=mg
 base:=base
 A:=A.deeper (envOfC qual scope s.heap.objs.size f cd)
 N:=N
 s₀:=s
 H₀:=H
 env:=envOfC qual scope s.heap.objs.size f cd
 outer:=outer
 stack:=envOfC qual scope s.heap.objs.size f cd :: outer
 ex:=[]
 calm:=true
 fn:=λ_=>true
 pn:=[]
 xe:=λe s'=>wpAny (model P w) (A.deeper (envOfC qual scope s.heap.objs.size f cd)) (leaving (envOfC qual scope s.heap.objs.size f cd) e) (λ_ s''=>CX outer H s E e s'') (λe' s''=>CX outer H s E e' s'') s'
theorem Bp {sc:Scope} (h:sc.names.lookup x=some .cell):∃c,(cellsFrom n sc.names []).lookup x=some c:=by
 have q:=uE sc.names n [] (.inl h);exact Kt.mp q
theorem D6 {K:FG9} 
  (S:aU N ps scope) (hd:A.handled=none) (e0:Cy P w K mg base A outer s H) (hl:vs.length=ps.length) (r:cf vs us)
  (x:InCallC s s.heap.objs.size (bindL (envOfC qual scope s.heap.objs.size f cd).kindOf (ps.zip us) λ_=>none) (cellsFrom (s.heap.objs.size+1) scope.names []) (bindC (envOfC qual scope s.heap.objs.size f cd).kindOf (ps.zip us) λ_=>none) s1) :
  Inv (Ed CX P w K mg base N qual scope f cd A outer s H E) [] (start N vs) H s1:=by
 have hpl:ps.length<=N.length:=by have:=congrArg List.length S.pre;rw[cQ] at this;lia
 obtain ⟨h1,tk,rfl,hk⟩:=x.done;have noA:∀b:Addr,b∉(Ed CX P w K mg base N qual scope f cd A outer s H E).ex:=λb z=>absurd (show b∈([]:List Addr) from z) (by simp)
 refine ⟨⟨e0.mod,S.kind,rfl,rfl,ao _,λy z c h1 h2=>?_,λy hy=>?_,λy c _ h=>?_,λ_=>hd,Around.frames_deeper e0.frames,.inr ⟨rfl,rfl⟩,λb z=>absurd z (noA b),e0.bs,e0.bsz,λb _ _=>noA b,λb z=>absurd z (noA b),e0.funs,e0.frf⟩,
  rfl,e0.bare,Un.kept hk,⟨_,x.toInCall.ns,λi y v h1 h2 h3=>?_⟩,λy c h=>⟨_,x.cell y c h⟩,e0.hok.fresh (ao _),λy c h=>?_,λp hp=>absurd (show p∈([]:List (Addr×Obj)) from hp) (by simp),e0.hok.kept hk,?_⟩
 ·exact name_of_addr x.apart (iN h1) (iN h2)
 ·have hy:scope.names.lookup y=some .cell\/scope.names.lookup y=some .free:=hy;rcases hy with hy | hy
  ·exact Bp hy
  ·exact absurd rfl (S.nofree _ (iN hy))
 ·exact aL (x.above y c (iN h))
 ·have hi:i < vs.length:=by
   unfold start at h2;by_cases hi:i < vs.length
   ·exact hi
   ·rw[bu (by simpa using hi)] at h2;rw[LI] at h2
    split at h2 <;> cases h2
  have ha:vs[i]?=some v:=by
   unfold start at h2;rw[bZ (by simpa using hi),aD] at h2;cases e:vs[i]? with
   | none=>rw[e] at h2;cases h2
   | some a=>rw[e] at h2;cases h2;rfl
  obtain ⟨u,hu,rv⟩:=r.get ha
  have hp:ps[i]?=some y:=by
   rw[<- S.pre,iX (by lia)];exact h1
  have ndP:ps.Nodup:=by rw[<- S.pre];exact S.nd.sublist (List.take_sublist _ _)
  refine ⟨u,rv,?_⟩;rcases S.par y (av hp) with k | k
  ·exact .inl ⟨k,yC ndP hp hu k⟩
  ·obtain ⟨c,e⟩:=Bp (n:=s.heap.objs.size+1) k;refine .inr ⟨.inl k,c,e,?_⟩;have q:=x.cell y c e;rw[yE ndP hp hu (by show scope.names.lookup y≠_;rw[k];decide)] at q;exact q
 ·exact e0.hok.fresh (aL (x.above y c (iN h)))
 ·unfold start;show _=N.length
  rw[aw,ag,cX]
  lia
theorem Lu {K:FG9} {dV kV doc pm cdv ct oc:Value} 
 (lk:K.lookup f=some ⟨oc,od,.func (PySem.W.fnOf name qual params body scope dV kV doc pm an cdv ct),osl⟩) (hcd:PySem.W.codeIn K cdv qual=true) (S:aU N ps scope)
  (len:∀vs H Q E,sp vs H Q E->vs.length=ps.length)
  (hbody:∀(A:Around) (outer:List Env) (s:Shared) (H:Hp) (vs:List V) (Q:VK) (E:XK),ja k (A.deeper (envOfC qual scope s.heap.objs.size f cdv))->sp vs H Q E →
   ∃t,Cw (Ed CX P w K mg base N qual scope f cdv A outer s H E) body t/\t { nx:=λ_ H'=>Q .non H',rt:=Q } (start N vs) H) :
  cz P w K mg base CX (k+1) f (PySem.W.fnOf name qual params body scope dV kV doc pm an cdv ct) ps sp:=by
 refine ⟨len,λA outer s H args us vs Q E hr e0 hb r hsp=>?_⟩;have hl:=len _ _ _ _ hsp;have KX:K.In s.heap:=e0.mod.kin.keeps λb o e=>(e0.bs b o e).1
 have lim:s.heap.NoLimit:=e0.mod.nolimit.keeps λb o e=>(e0.bs b o e).1
 have hkind:∀y∈ps.zip us,scope.names.lookup y.1=some .local\/(scope.names.lookup y.1=some .cell/\((cellsFrom (s.heap.objs.size+1) scope.names []).lookup y.1).isSome=true):=λ⟨n,v⟩ hy=>by
  rcases S.par n (F2 hy).1 with q | q
  ·exact .inl q
  ·exact .inr ⟨q,uE _ _ _ (.inl q)⟩
 refine codeAny_call_function hr.depth (KX _ _ lk) rfl S.co S.gen rfl (PySem.W.codeRec_of KX hcd) (hb _ _ _ _ ?_);refine wpAny_newFunctionEnv_cells S.kind hkind λenv he s1 x=>?_
 subst he;refine ⟨lim.keeps x.toInCall.keep,codeAny_func ?_⟩;obtain ⟨t,ht,hq⟩:=hbody A outer s H vs Q E (hr.deeper _) hsp;have I:Inv (Ed CX P w K mg base N qual scope f cdv A outer s H E) [] (start N vs) H s1:=D6 S hr.hd e0 hl r x;refine wpAny_mono (ht [] s1 (start N vs) H _ I hq) (λfl s' hs=>?_) λe s' hs=>hs
 have fin:∀{σ':St} {H':Hp} {v:V} {u:Value},Inv (Ed CX P w K mg base N qual scope f cdv A outer s H E) [] σ' H' s'->RelV v u->Q v H'->CE outer P w H s Q u s' :=
  λ{σ' H' v u} J rv q=>⟨v,H',J.os,J.bare,J.base,J.hok,rv,q⟩
 cases fl with
 | ret u =>
  obtain ⟨v,σ',H',J,rv,q⟩:=hs;exact fin J rv q
 | next =>
  obtain ⟨σ',H',J,q⟩:=hs;exact fin (v:=V.non) (u:=Value.none) J rfl q
 | brk =>
  obtain ⟨_,_,_,q⟩:=hs;exact False.elim q
 | cont =>
  obtain ⟨_,_,_,q⟩:=hs;exact False.elim q
section
variable {X:Cx} {x:Str} {p pos:Pos} {e:Expr} {es:List Expr} {t:TA} {id T:String} {r:List V->Hp->VK->Prop}
def LZ (r:List V->Hp->VK->Prop) (t:TA):TE:=λσ H Q=>t σ H λvs H1=>r vs H1 Q
theorem bA (hc:oi X (.builtin id) r) (hg:Gl X x) (hm:X.mg x=none) (hv:bootBuiltins x=some (.builtin id)) (ha:PA X (e :: es) t) (hn:x≠"__name__":=by decide) (hdb:(x == ("__debug__":Str))=false:=by decide)
  (he:starEach (e :: es) X.env=(false,eval e X.env) :: starEach es X.env:=by rfl) (hpl:(backTo pos (starEach es X.env)).any (·.1)=false:=by rfl):PE X (.Call (.Name x p) (e :: es) [] pos) (LZ r t):=by
 intro pins s σ H Q I h;refine wpAny_Call_Name_kw (ib I hg hm hv ?_ hn hdb);exact PyProof.Rows.callWith_builtin1 (eJ (ha pos pins s σ H _ I h) λus s1 ⟨vs,H1,I1,r1,q1⟩=>hc pins s1 σ H1 vs us Q I1 r1 q1) he hpl
theorem d7 (hc:oi X (.type T) r) (hg:Gl X x) (hm:X.mg x=none) (hv:bootBuiltins x=some (.type T)) (ha:PA X (e :: es) t) (hn:x≠"__name__":=by decide) (hdb:(x == ("__debug__":Str))=false:=by decide)
  (he:starEach (e :: es) X.env=(false,eval e X.env) :: starEach es X.env:=by rfl) (hpl:(backTo pos (starEach es X.env)).any (·.1)=false:=by rfl):PE X (.Call (.Name x p) (e :: es) [] pos) (LZ r t):=by
 intro pins s σ H Q I h;refine wpAny_Call_Name_kw (ib I hg hm hv ?_ hn hdb);exact PyProof.Rows.callWith_type1 (eJ (ha pos pins s σ H _ I h) λus s1 ⟨vs,H1,I1,r1,q1⟩=>hc pins s1 σ H1 vs us Q I1 r1 q1) he hpl
end
end L2
namespace HT
open PySem PyProof.Rows
section
open PySem.SeqAt
open PySem.AutoSeq1 (wpAny_loadPart')
open PySem.MeetsSeq PySem.MeetsSeq2 PySem.MeetsSeq3
end
section
variable {prog:Program} {w:World} {A:Around} {E:Value->Shared->Prop} {s:Shared}
def AW (n d:Nat):Option Int->Nat
 | none=>d
 | some v=>if v < 0 then (v+(n:Int)).toNat else min v.toNat n
theorem vb (n d:Nat):AW n d none=d:=rfl
theorem zv (n d k:Nat):AW n d (some (k:Int))=min k n:=by
 show (if (k:Int) < 0 then ((k:Int)+(n:Int)).toNat else min (k:Int).toNat n)=min k n
 rw[if_neg (by lia),Int.toNat_natCast]
end
end HT
namespace L2
open PySem PySem.Spec PyProof.Rows
abbrev TO:=St->Hp->(Option Int->Hp->Prop)->Prop
def PO (X:Cx) (e:Option Expr) (t:TO):Prop :=
 ∀(pins:List (Addr×Obj)) (s:Shared) (σ:St) (H:Hp) (Q:Option Int->Hp->Prop),Inv X pins σ H s->t σ H Q →
  wpAny (model X.prog X.w) X.A (evalPart e X.env) (λu s'=>∃o H',Inv X pins σ H' s'/\IsPart u o/\Q o H') X.xe s
def CD:TO:=λ_ H Q=>Q none H
def Il (t:TE):TO:=λσ H Q=>t σ H λx H1=>∃i,x=.int i/\Q (some i) H1
theorem intsAre_of:∀{us:List Value},cf (ns.map V.int) us->IntsAre us ns:=by
 induction ns with
 | nil=>intro us r;rw[List.map_nil] at r;cases r;exact .nil
 | cons n ns ih =>
  intro us r;rw[fV] at r;cases r with
  | cons r1 r2 =>
   obtain ⟨t,e⟩:=r1;subst e;exact .cons n t (ih r2)
section
variable {X:Cx} {e:Expr} {te:TE} {lo hi:Option Expr} {tl th:TO} {pos p2:Pos}
theorem oo:PO X none CD:=by
 intro pins s σ H Q I h;rw[evalPart_none];exact wpAny_pure ⟨none,H,I,.none,h⟩
theorem oj (h:PE X e te):PO X (some e) (Il te):=by
 intro pins s σ H Q I hw;rw[evalPart_some];refine eJ (h pins s σ H _ I hw) λu s1 ⟨x,H1,I1,r1,q1⟩=>?_
 obtain ⟨i,rfl,q⟩:=q1;obtain ⟨t,rfl⟩:=r1;exact ⟨some i,H1,I1,.int i t,q⟩
def Mg (X:Cx) (r:V->Option Int->Option Int->Hp->VK->Prop):Prop :=
 ∀(pins:List (Addr×Obj)) (s:Shared) (σ:St) (H:Hp) (x:V) (v vl vu:Value) (lo hi:Option Int) (sl:Addr) (Q:VK),Inv X pins σ H s->RelV x v->s.heap.IsSliceOf sl vl vu .none->IsPart vl lo->IsPart vu hi->r x lo hi H Q →
  ∃T id,typeLookup (.type T) "__getitem__"=pure (some (.builtin id))/\s.TypeIs v T/\wpAny (model X.prog X.w) X.A (getItem v (.ref sl)) (EP X pins σ Q) X.xe s
def tSl (r:V->Option Int->Option Int->Hp->VK->Prop) (te:TE) (tl th:TO):TE:=λσ H Q=>te σ H λx H1=>tl σ H1 λl H2=>th σ H2 λu H3=>r x l u H3 Q
theorem kH (hr:Mg X r) (he:PE X e te) (hl:PO X lo tl) (hu:PO X hi th):PE X (.Subscript e (.Slice lo hi none p2) pos) (tSl r te tl th):=by
 intro pins s σ H Q I h;refine Subscript_ (eJ (he pins s σ H _ I h) λv s1 ⟨x,H1,I1,r1,q1⟩=>?_);refine wpAny_Slice (eJ (hl pins s1 σ H1 _ I1 q1) λvl s2 ⟨l,H2,I2,pl,q2⟩=>eJ (hu pins s2 σ H2 _ I2 q2) λvu s3 ⟨u,H3,I3,pu,q3⟩=>?_);rw[evalPart_none];refine wpAny_pure ?_;have I4:Inv X pins σ H3 { s3 with heap:=s3.heap.push { cls:=.type "slice",data:=.fields #[vl,vu,.none] } }:=I3.kept (t':=s3.toks) λb ob q=>Heap.get?_push_of_some _ q
 obtain ⟨T,id,hT,ht,hg⟩:=hr pins { s3 with heap:=s3.heap.push { cls:=.type "slice",data:=.fields #[vl,vu,.none] } } σ H3 x v vl vu l u s3.heap.objs.size Q I4 r1 (Heap.IsSliceOf.new ..) pl pu q3;show wpAny (model X.prog X.w) X.A (subscriptTail e (.Slice lo hi none p2) v (.ref s3.heap.objs.size)) (EP X pins σ Q) X.xe { s3 with heap:=s3.heap.push { cls:=.type "slice",data:=.fields #[vl,vu,.none] } }
 exact tail_any (ops:=[.ref s3.heap.objs.size,v]) ht hT hg (by with_unfolding_all rfl)
def oE (xs:List V) (lo hi:Option Int):List V:=(xs.drop (HT.AW xs.length 0 lo)).take (HT.AW xs.length xs.length hi - HT.AW xs.length 0 lo)
theorem tP (xs:List V) (lo hi:Option Int):(oE xs lo hi).length<=xs.length:=by
 unfold oE;rw[cQ,List.length_drop]
 lia
end
def Ej (n:Nat) (i:Int):Option Nat:=if 0<=i then (if i < n then some i.toNat else none) else if -(n:Int)<=i then some (i+n).toNat else none
def Cq {α:Type} (xs:List α) (i:Int):Option α:=(Ej xs.length i).bind λj=>xs[j]?
theorem C9 (h:Ej n i=some j):seqIndex? i n=some j/\j < n/\-(n:Int)<=i/\i < n:=by
 unfold Ej at h;by_cases h0:0<=i
 ·rw[if_pos h0] at h;by_cases h1:i < n
  ·rw[if_pos h1] at h;have e:i.toNat=j:=bQ h;exact ⟨by rw[seqIndex_of h0 h1,e],by lia,by lia,h1⟩
  ·rw[if_neg h1] at h;cases h
 ·rw[if_neg h0] at h;by_cases h1:-(n:Int)<=i
  ·rw[if_pos h1] at h;have e:(i+n).toNat=j:=bQ h;exact ⟨by rw[seqIndex_neg (by lia) h1,e],by lia,h1,by lia⟩
  ·rw[if_neg h1] at h;cases h
theorem Ah {xs:List α} {v:α} (h:Cq xs i=some v):∃j,seqIndex? i xs.length=some j/\xs[j]?=some v/\j < xs.length/\-(xs.length:Int)<=i/\i < xs.length:=by
 unfold Cq at h;cases e:Ej xs.length i with
 | none=>rw[e] at h;cases h
 | some j =>
  rw[e] at h;obtain ⟨h1,h2,h3,h4⟩:=C9 e;exact ⟨j,h1,h,h2,h3,h4⟩
theorem eG {xs:List α} {j:Nat} {v:α} (h:xs[j]?=some v):Cq xs (j:Int)=some v:=by
 have hj:j < xs.length:=(aA.mp h).1
 have e:Ej xs.length (j:Int)=some j:=by
  unfold Ej;rw[if_pos (by lia),if_pos (by lia)];simp
 unfold Cq;rw[e];exact h
theorem wo (xs:List α) (v:α):Cq (xs++[v]) (-1)=some v:=by
 have hl:(xs++[v]).length=xs.length+1:=by simp
 have e:Ej (xs++[v]).length (-1)=some xs.length:=by
  unfold Ej;rw[hl,if_neg (by decide),if_pos (by lia)];congr 1
  lia
 unfold Cq;rw[e];show (xs++[v])[xs.length]?=some v
 simp
def Ia (b:Expr):Prop:=∀o i,subscripted b false o i=operate [o,i] (getItem o i)
def LD (X:Cx) (r:R2):Prop :=
 ∀(value slice:Expr) (pins:List (Addr×Obj)) (s:Shared) (σ:St) (H:Hp) (x y:V) (v u:Value) (Q:VK),Inv X pins σ H s->RelV x v->RelV y u->r x y H Q →
  subscripted slice false v u=operate [v,u] (getItem v u)->wpAny (model X.prog X.w) X.A (subscriptTail value slice v u) (EP X pins σ Q) X.xe s
def MtR (X:Cx) (id:String) (r:V->List V->Hp->VK->Prop):Prop :=
 ∀(pins:List (Addr×Obj)) (s:Shared) (σ:St) (H:Hp) (x:V) (xs:List V) (v:Value) (us:List Value) (Q:VK),Inv X pins σ H s->RelV x v->cf xs us->r x xs H Q →
  wpAny (model X.prog X.w) X.A (call (.builtin id) (v :: us)) (EP X pins σ Q) X.xe s
section
variable {X:Cx} {a b:Expr} {ta tb:TE} {pos:Pos}
theorem ba {r:R2} (hr:LD X r) (ha:PE X a ta) (hb:PE X b tb) (hs:Ia b:=by intro _ _;rfl):PE X (.Subscript a b pos) (KG r ta tb):=by
 intro pins s σ H Q I h;exact Subscript_ (Ki ha hb I h λv u s2 x y H2 I2 rx ry q=>hr a b pins s2 σ H2 x y v u Q I2 rx ry q (hs _ _))
def JH (K:FG9):R2:=λx y H Q=>∃p xs i v,x=.ref p/\y=.int i/\bD K H p xs/\Cq xs i=some v/\Q v H
def JG (K:FG9):R2:=λx y H Q=>∃p xs i v,x=.ref p/\y=.int i/\jG K H p xs/\Cq xs i=some v/\Q v H
theorem bM:LD X (JH X.K):=by
 intro value slice pins s σ H x y v u Q I rx ry h hs;obtain ⟨p,xs,i,z,rfl,rfl,hq,he,q⟩:=h;cases rx;obtain ⟨t,rfl⟩:=ry;obtain ⟨its,r,pl,hz⟩:=I.list hq;obtain ⟨j,h1,h2,h3,h4,h5⟩:=Ah he;obtain ⟨w,ew,rw'⟩:=r.get h2;have hl:=r.length;have hn:=vO;have fin:EP X pins σ Q w s:=⟨z,H,I,rw',q⟩;by_cases h0:0<=i
 ·have hj:i.toNat=j:=by
   rw[seqIndex_of h0 h5] at h1;exact bQ h1
  exact item_listR pl.isList h0 (by lia) (by rw[hj];simpa using ew) fin hs
 ·have hj:(i+(its.toArray.size:Int)).toNat=j:=by
   rw[seqIndex_neg (by lia) h4] at h1;rw[aI,<- hl];exact bQ h1
  exact subscriptTail_builtinR (x:=w) pl.isList.typeIs slot_list_getitem.lookup
   (wpAny_getItem_list_neg (Q:=λr s'=>r=w/\EP X pins σ Q r s') pl.isList (by lia) (by rw[aI] <;> lia) (by lia) (by rw[hj];simpa using ew) ⟨rfl,fin⟩) hs
theorem bW:LD X (JG X.K):=by
 intro value slice pins s σ H x y v u Q I rx ry h hs;obtain ⟨p,xs,i,z,rfl,rfl,hq,he,q⟩:=h;cases rx;obtain ⟨t,rfl⟩:=ry;obtain ⟨its,r,pl,hz⟩:=I.tuple hq;obtain ⟨j,h1,h2,h3,h4,h5⟩:=Ah he;obtain ⟨w,ew,rw'⟩:=r.get h2;have hl:=r.length;have hn:=vO;have fin:EP X pins σ Q w s:=⟨z,H,I,rw',q⟩
 exact subscriptTail_builtinR (x:=w) pl.typeIs slot_tuple_getitem.lookup
  (getItem_tuple (j:=j) (Q:=λr s'=>r=w/\EP X pins σ Q r s') pl (by lia) (by lia) (by rw[aI,<- hl];exact h1) (by simpa using ew) ⟨rfl,fin⟩) hs
theorem Cb (its:List Value) (n j:Nat) (u:Value):Obj.mapSeq (·.setIfInBounds j u) { cls:=.type "list",data:=.seq its.toArray n }={ cls:=.type "list",data:=.seq (its.set j u).toArray n }:=by
 simp [Obj.mapSeq]
theorem Inv.lst {pins:List (Addr×Obj)} {σ:St} {H:Hp} {s:Shared} {p:Addr} {xs:List V} (I:Inv X pins σ H s) (h:H p=some (.lst xs)) :
  ∃(its:List Value) (n:Nat),cf xs its/\s.heap.get? p=some { cls:=.type "list",data:=.seq its.toArray n }/\xs.length<=sizeLine:=by
 obtain ⟨z,its,n,r,e⟩:=I.hok p _ h;exact ⟨its,n,r,e,z⟩
theorem Inv.lstUpd {σ:St} {its its':List Value} (I:Inv X pins σ H s) (h:H p=some (.lst xs))
  (ho:s.heap.get? p=some { cls:=.type "list",data:=.seq its.toArray n }) (hf:f { cls:=.type "list",data:=.seq its.toArray n }={ cls:=.type "list",data:=.seq its'.toArray n' }) (r:cf ys its') (hz:ys.length<=sizeLine) (t:Nat) :
  Inv X pins σ (upd H p (.lst ys)) { s with heap:=s.heap.update p f,toks:=t }:=by
 have e:(s.heap.update p f).get? p=some { cls:=.type "list",data:=.seq its'.toArray n' }:=by
  rw[Heap.get?_update_self f ho (by rw[hf] <;> rfl),hf]
 refine I.write (x:=p) (e:=p) (by rw[h];trivial) (.inl rfl) (λb u hb q=>(Heap.get?_update_other _ _ (Ne.symm hb)).trans q) ⟨_,e⟩ ?_;exact ⟨hz,its',n',r,e⟩
def Iz:V->V->V->Hp->(Hp->Prop)->Prop:=λo i v H Q=>∃p xs k j,o=.ref p/\i=.int k/\H p=some (.lst xs)/\Ej xs.length k=some j/\Q (upd H p (.lst (xs.set j v)))
theorem set_list:Kl X Iz:=by
 intro pins s σ H o i v ov iv u Q I ro ri rv h;obtain ⟨p,xs,k,j,rfl,rfl,hp,hj,q⟩:=h;cases ro;obtain ⟨t,rfl⟩:=ri;obtain ⟨its,n,r,ho,hz⟩:=I.lst hp;obtain ⟨h1,h2,h3,h4⟩:=C9 hj;have hl:=r.length;have hn:=vO
 have I':Inv X pins σ (upd H p (.lst (xs.set j v))) { s with heap:=s.heap.update p (Obj.mapSeq (·.setIfInBounds j u)) } :=
  I.lstUpd hp ho (Cb its n j u) (r.set rv j) (by rw[dR];exact hz) s.toks
 by_cases h0:0<=k
 ·have hk:k.toNat=j:=by
   rw[seqIndex_of h0 h4] at h1;exact bQ h1
  exact PySem.W.ki_setAt ho h0 (by lia) (by rw[aI,<- hl];exact h4) (by rw[hk];exact ⟨_,I',q⟩)
 ·have hk:(k+(its.toArray.size:Int)).toNat=j:=by
   rw[seqIndex_neg (by lia) h3] at h1;rw[aI,<- hl];exact bQ h1
  exact PySem.W.ki_setBack ho (by lia) (by rw[aI,<- hl];exact h3) (by lia) (by rw[hk];exact ⟨_,I',q⟩)
theorem y9 (lo hi:Option Int) (n:Nat):(sliceBounds lo hi none n).1=((HT.AW n 0 lo:Nat):Int)/\(sliceBounds lo hi none n).2.1=((HT.AW n n hi:Nat):Int)/\(sliceBounds lo hi none n).2.2=1:=by
 refine ⟨?_,?_,rfl⟩
 ·cases lo with
  | none=>simp [sliceBounds,HT.AW]
  | some i =>
   simp only[sliceBounds,HT.AW,Option.getD_none,show (1:Int) > 0 by decide,if_true];by_cases h:i < 0
   ·simp only[h,if_true] <;> lia
   ·simp only[h,if_false] <;> lia
 ·cases hi with
  | none=>simp [sliceBounds,HT.AW]
  | some i =>
   simp only[sliceBounds,HT.AW,Option.getD_none,show (1:Int) > 0 by decide,if_true];by_cases h:i < 0
   ·simp only[h,if_true] <;> lia
   ·simp only[h,if_false] <;> lia
theorem xh (its:List Value) (lo hi:Option Int):slicePick its.toArray lo hi none=((its.drop (HT.AW its.length 0 lo)).take (HT.AW its.length its.length hi - HT.AW its.length 0 lo)).toArray:=by
 obtain ⟨h1,h2,h3⟩:=y9 lo hi its.toArray.size;unfold slicePick;rw[h1,h2,h3];simp only[sliceRange_one,pick_run,aI] <;> rfl
def JE (K:FG9):V->Option Int->Option Int->Hp->VK->Prop:=λx lo hi H Q=>∃a xs,x=.ref a/\bD K H a xs/\∀p,H p=none->Q (.ref p) (upd H p (.lst (oE xs lo hi)))
theorem za:Mg X (JE X.K):=by
 intro pins s σ H x v vl vu lo hi sl Q I rx hs pl pu h;obtain ⟨a,xs,rfl,hx,q⟩:=h;cases rx;obtain ⟨its,r,ht,hz⟩:=I.list hx;have hlen:=r.length;refine ⟨"list",_,slot_list_getitem.lookup,ht.isList.typeIs,?_⟩;refine wpAny_getItem_list_slice ht.isList hs pl pu .none (by simp) ?_ (by rw[aI] <;> lia);rw[xh,<- hlen];refine ⟨.ref s.heap.objs.size,_,I.laid (t':=s.toks) (o:=.lst (oE xs lo hi)) (λb ob q=>Heap.get?_push_of_some _ q) (ao _) ?_,rfl,q _ (I.hok.fresh (ao _))⟩;exact ⟨aj (tP xs lo hi) hz,_,0,(r.drop (HT.AW xs.length 0 lo)).take (HT.AW xs.length xs.length hi - HT.AW xs.length 0 lo),Heap.get?_push_size _ rfl⟩
def qO:V->Bool
 | .non=>true
 | .bl _=>true
 | .int _=>true
 | .str _=>true
 | _=>false
def IP:V->V->Bool
 | .non,.non=>true
 | .bl a,.bl b=>a == b
 | .bl a,.int b=>(if a then 1 else 0) == b
 | .int a,.bl b=>a == (if b then 1 else 0)
 | .int a,.int b=>a == b
 | .str a,.str b=>a == b
 | _,_=>false
theorem Ke (ry:RelV y u) (rx:RelV x v) (fy:qO y=true) (fx:qO x=true):SeqAt.EqAt A s u v (IP y x):=by
 cases y with
 | non =>
  cases ry;cases x with
  | non=>cases rx;exact SeqAt.EqAt.same _
  | bl b=>cases rx;exact SeqAt.EqAt.none_bool b
  | int b=>obtain ⟨t,rfl⟩:=rx;exact SeqAt.EqAt.none_int b t
  | str b=>obtain ⟨t,rfl⟩:=rx;exact SeqAt.EqAt.none_str b t
  | _=>exact absurd (show false=true from fx) aQ
 | bl a =>
  cases ry;cases x with
  | non=>cases rx;exact SeqAt.EqAt.bool_none a
  | bl b=>cases rx;exact SeqAt.EqAt.bool_bool a b
  | int b=>obtain ⟨t,rfl⟩:=rx;exact SeqAt.EqAt.bool_int a b t
  | str b=>obtain ⟨t,rfl⟩:=rx;exact SeqAt.EqAt.bool_str a b t
  | _=>exact absurd (show false=true from fx) aQ
 | int a =>
  obtain ⟨t',rfl⟩:=ry;cases x with
  | non=>cases rx;exact SeqAt.EqAt.int_none a t'
  | bl b=>cases rx;exact SeqAt.EqAt.int_bool a t' b
  | int b=>obtain ⟨t,rfl⟩:=rx;exact SeqAt.EqAt.int_int a t' b t
  | str b=>obtain ⟨t,rfl⟩:=rx;exact SeqAt.EqAt.int_str a t' b t
  | _=>exact absurd (show false=true from fx) aQ
 | str a =>
  obtain ⟨t',rfl⟩:=ry;cases x with
  | non=>cases rx;exact SeqAt.EqAt.str_none a t'
  | bl b=>cases rx;exact SeqAt.EqAt.str_bool a t' b
  | int b=>obtain ⟨t,rfl⟩:=rx;exact SeqAt.EqAt.str_int a t' b t
  | str b=>obtain ⟨t,rfl⟩:=rx;exact SeqAt.EqAt.str_str a t' b t
  | _=>exact absurd (show false=true from fx) aQ
 | _=>exact absurd (show false=true from fy) aQ
def HN (x:V) (u:Value):Bool:=match u with
 | .none=>IP .non x
 | .bool b=>IP (.bl b) x
 | .int i _=>IP (.int i) x
 | .str z _=>IP (.str z) x
 | _=>false
theorem FG (r:RelV y u) (f:qO y=true):HN x u=IP y x:=by
 cases y with
 | non=>cases r;rfl
 | bl b=>cases r;rfl
 | int i=>obtain ⟨t,rfl⟩:=r;rfl
 | str z=>obtain ⟨t,rfl⟩:=r;rfl
 | _=>exact absurd (show false=true from f) aQ
theorem Aj {x:V}:∀{xs:List V} {us:List Value},cf xs us->xs.all qO=true->us.any (HN x)=xs.any λy=>IP y x
 | _,_,.nil,_=>rfl
 | y :: xs,u :: us,.cons r t,f=>by
  rw[Kv,c7] at f;rw[List.any_cons,List.any_cons,FG r f.1,Aj t f.2]
theorem vJ {A:Around} {s:Shared} {x:V} {v:Value} (rx:RelV x v) (fx:qO x=true):∀{xs:List V} {us:List Value},cf xs us->xs.all qO=true->∀u∈us,SeqAt.EqAt A s u v (HN x u)
 | _,_,.nil,_=>λu hu=>by cases hu
 | y :: xs,u :: us,.cons r t,f=>λu' hu=>by
  rw[Kv,c7] at f;rcases aE.mp hu with rfl | hu
  ·rw[FG r f.1];exact Ke r rx f.1 fx
  ·exact vJ rx fx t f.2 u' hu
def LQ (x:V) (xs:List V):Bool:=xs.any λy=>IP y x
def rIn (K:FG9) (neg:Bool):R2:=λx y H Q=>∃p xs,y=.ref p/\(bD K H p xs\/jG K H p xs)/\qO x=true/\xs.all qO=true/\Q (.bl (if neg then !LQ x xs else LQ x xs)) H
theorem zF:sT X (compareOp .NotIn) (rIn X.K true):=by
 intro pins s σ H x y v u Q I rx ry h;obtain ⟨p,xs,rfl,hq,fx,fs,q⟩:=h;cases ry;rcases hq with hq | hq
 ·obtain ⟨its,r,pl,hz⟩:=I.list hq;refine SeqAt.notIn_listAt (HN x) pl.isList (λw hw=>vJ rx fx r fs w (by simpa using hw)) ⟨.bl _,H,I,rfl,?_⟩;rw[show its.toArray.any (HN x)=its.any (HN x) by simp,Aj r fs];exact q
 ·obtain ⟨its,r,pl,hz⟩:=I.tuple hq;refine SeqAt.notIn_tupleAt (HN x) pl (λw hw=>vJ rx fx r fs w (by simpa using hw)) ⟨.bl _,H,I,rfl,?_⟩;rw[show its.toArray.any (HN x)=its.any (HN x) by simp,Aj r fs];exact q
theorem a9:oi X (.builtin "len") (λxs H Q=>∃p ys,xs=[.ref p]/\(bD X.K H p ys\/jG X.K H p ys)/\Q (.int ys.length) H):=by
 intro pins s σ H xs us Q I r h;obtain ⟨p,ys,rfl,hq,q⟩:=h;obtain ⟨u,rfl,rx⟩:=vals1 r;cases rx;have hn:=vO;rcases hq with hq | hq
 ·obtain ⟨its,r',pl,hz⟩:=I.list hq;have hlen:=r'.length;exact Calls.call_len_list pl.isList (by simp only[aI] <;> lia) ⟨.int ys.length,H,I.tok _,⟨s.toks+1,by rw[aI,hlen]⟩,q⟩
 ·obtain ⟨its,r',pl,hz⟩:=I.tuple hq;have hlen:=r'.length;exact len_tuple pl (by simp only[aI] <;> lia) ⟨.int ys.length,H,I.tok _,⟨s.toks+1,by rw[aI,hlen]⟩,q⟩
theorem rg:oi X (.type "list") (λxs H Q=>∃p ys,xs=[.ref p]/\(bD X.K H p ys\/jG X.K H p ys)/\∀l,H l=none->Q (.ref l) (upd H l (.lst ys))):=by
 intro pins s σ H xs us Q I r h;obtain ⟨p,ys,rfl,hq,q⟩:=h;obtain ⟨u,rfl,rx⟩:=vals1 r;cases rx
 have fin:∀(its:List Value),cf ys its->ys.length<=sizeLine->∀(h':Heap) (c':Nat),(∀b o',s.heap.get? b=some o'->h'.get? b=some o') →
   h'.get? s.heap.objs.size=some { cls:=.type "list",dict:=none,data:=.seq its.toArray c',slots:=#[] }->EP X pins σ Q (.ref s.heap.objs.size) { s with heap:=h' }:=λits r' hz h' c' kp e =>
  ⟨.ref s.heap.objs.size,_,I.laid (t':=s.toks) kp (ao _) (show fQ X.prog X.w _ h' _ (.lst ys) from ⟨hz,its,c',r',e⟩),rfl,q _ (I.hok.fresh (ao _))⟩
 rcases hq with hq | hq
 ·obtain ⟨its,r',pl,hz⟩:=I.list hq;have hlen:=r'.length;obtain ⟨o,ho,hc,n,hd⟩:=pl.isList;exact call_list_seq p (.inl rfl) ho hc hd (λh' c' kp e=>fin its r' hz h' c' kp e) (by simp only[aI] <;> lia)
 ·obtain ⟨its,r',pl,hz⟩:=I.tuple hq;have hlen:=r'.length;obtain ⟨o,ho,hc,n,hd⟩:=pl;exact call_list_seq p (.inr rfl) ho hc hd (λh' c' kp e=>fin its r' hz h' c' kp e) (by simp only[aI] <;> lia)
def LY (K:FG9) (T:String) (x:V) (H:Hp):Prop:=match x with
 | .str _=>T="str"
 | .int _=>T="int"
 | .ref p=>(T="list"/\∃xs,bD K H p xs)\/(T="tuple"/\∃o,K.lookup p=some o/\o.cls=.type "tuple"/\o.dict=none) \/
   (T="dict"/\((∃kvs,H p=some (.dK kvs))\/∃kvs,H p=some (.dT kvs)))\/(T="set"/\∃S n,H p=some (.set S n))
 | _=>False
theorem Jb {σ:St} (I:Inv X pins σ H s) (r:RelV x v) (ty:LY X.K T x H) :
  s.TypeIs v T/\∀a,v=.ref a->∃ob,s.heap.get? a=some ob/\ob.dict=none:=by
 cases x with
 | str z =>
  obtain ⟨t,rfl⟩:=r;cases (show T="str" from ty);exact ⟨typeIs_str s z t,λ_ e=>nomatch e⟩
 | int i =>
  obtain ⟨t,rfl⟩:=r;cases (show T="int" from ty);exact ⟨typeIs_int s i t,λ_ e=>nomatch e⟩
 | ref p =>
  cases r;rcases ty with ⟨rfl,xs,hq⟩ | ⟨rfl,o,hk,hc,hd⟩ | ⟨rfl,hk⟩ | ⟨rfl,S,n,hk⟩
  ·obtain ⟨its,_,pl,_⟩:=I.list hq;refine ⟨pl.isList.typeIs,λa e=>?_⟩;cases e;obtain ⟨o,n,e,c,hd,_⟩:=pl;exact ⟨o,e,hd⟩
  ·refine ⟨⟨o,I.kIn p o hk,hc⟩,λa e=>?_⟩;cases e;exact ⟨o,I.kIn _ o hk,hd⟩
  ·have z:∃o,s.heap.get? p=some o/\o.ExactDict:=by
    rcases hk with ⟨kvs,hk⟩ | ⟨kvs,hk⟩
    ·obtain ⟨_,_,_,_,o,_,_,e,ex,_⟩:=I.hok p _ hk;exact ⟨o,e,ex⟩
    ·obtain ⟨_,_,_,_,o,_,_,e,ex,_⟩:=I.hok p _ hk;exact ⟨o,e,ex⟩
   obtain ⟨o,e,ex⟩:=z;refine ⟨⟨o,e,ex.1⟩,λa e2=>?_⟩;cases e2;exact ⟨o,e,ex.2.1⟩
  ·obtain ⟨o,_,_,_,e,ex,_⟩:=I.hok p _ hk;refine ⟨⟨o,e,ex.1⟩,λa e2=>?_⟩;cases e2;exact ⟨o,e,ex.2.1⟩
 | _=>exact False.elim ty
def L4 (K:FG9) (T:String) (r:V->List V->Hp->VK->Prop) (to:TE) (t:TA):TE:=λσ H Q=>to σ H λx H1=>LY K T x H1/\t σ H1 λxs H2=>r x xs H2 Q
variable {o e:Expr} {es:List Expr} {to:TE} {t:TA} {name:Str} {apos cpos:Pos} {T id:String} {r:V->List V->Hp->VK->Prop}
theorem sX (pa:PlainAttrs T) (slot:Slot T name id) (hty:typeOf (.builtin id)=pure (.type "method_descriptor")) (hm:MtR X id r) (ho:PE X o to) (ha:PA X (e :: es) t)
  (hbase:attributeBase o name X.env (eval o X.env)=eval o X.env:=by rfl)
  (hfew:((backTo cpos (starEach (e :: es) X.env)).all (λx=>!x.1) && (backToKw cpos (keywordEach [] X.env)).all (λx=>x.1.isSome)
   && decide ((e :: es).length+([]:List Keyword).length+(if ([]:List Keyword).isEmpty then 0 else 1) < 30))=true:=by rfl)
  (hline:(apos.endLine == cpos.line)=true:=by rfl) (hs:starEach (e :: es) X.env=(false,eval e X.env) :: starEach es X.env:=by rfl) (hplain:(backTo cpos (starEach es X.env)).any (·.1)=false:=by rfl) :
  PE X (.Call (.Attribute o name apos) (e :: es) [] cpos) (L4 X.K T r to t):=by
 intro pins s σ H Q I h;refine wpAny_Call_method_late hbase hfew hline rfl (eJ (ho pins s σ H _ I h) λv s1 ⟨x,H1,I1,r1,ty,q1⟩=>?_);obtain ⟨h1,h2⟩:=Jb I1 r1 ty;refine ⟨T,id,pa,slot,hty,h1,h2,?_⟩;have hA:=ha cpos pins s1 σ H1 _ I1 q1;rw[hs] at hA ⊢;refine Calls.callWith_builtin (by show (false || (backTo cpos (starEach es X.env)).any (·.1))=false;rw[hplain] <;> rfl) (Calls.evalArgs_plain ?_);exact eJ hA λus s2 ⟨vs,H2,I2,r2,q2⟩=>hm pins s2 σ H2 x vs v us Q I2 r1 r2 q2
end
def Mi (X:Cx) (id:String) (r:V->List V->Hp->VK->Prop):Prop :=
 ∀(pins:List (Addr×Obj)) (s:Shared) (σ:St) (H:Hp) (x:V) (xs:List V) (v:Value) (us:List Value) (Q:VK),Inv X pins σ H s->RelV x v->cf xs us->r x xs H Q →
  wpAny (model X.prog X.w) X.A (call (.builtin id) (v :: us)) (EP X pins σ Q) X.xe s
theorem cf.one:∀{x:V} {us:List Value},cf [x] us->∃u,us=[u]/\RelV x u
 | _,_,.cons r .nil=>⟨_,rfl,r⟩
theorem cf.eraseIdx:∀{xs:List V} {us:List Value} (i:Nat),cf xs us->cf (xs.eraseIdx i) (us.eraseIdx i)
 | _,_,_,.nil=>.nil
 | _,_,0,.cons _ t=>t
 | _,_,i+1,.cons r t=>.cons r (cf.eraseIdx i t)
theorem cf.rep {xs:List V} {us:List Value} (h:cf xs us):∀k:Nat,cf (List.replicate k xs).flatten (List.replicate k us).flatten
 | 0=>.nil
 | k+1=>by
  rw[iO,iO,gN,gN];exact cf.append h (cf.rep h k)
theorem ya {α:Type}:∀(l:List α) (i:Nat),(l.eraseIdx i).length<=l.length
 | [],_=>ao _
 | _ :: _,0=>mO _
 | _ :: r,i+1=>cP (ya r i)
theorem foldl_rep (its:List Value):∀(k:Nat) (acc:List Value),
  List.foldl (λx1 x2=>x1++x2) acc.toArray (List.replicate k its.toArray)=(acc++(List.replicate k its).flatten).toArray
 | 0,acc=>by simp
 | k+1,acc=>by
  have e:acc.toArray++its.toArray=(acc++its).toArray:=by simp
  have e2:(acc++its)++(List.replicate k its).flatten=acc++(List.replicate (k+1) its).flatten:=by
   rw[iO,gN,bO]
  rw[<- e2,<- foldl_rep its k (acc++its),<- e,iO,List.foldl_cons]
section
variable {X:Cx} {pins:List (Addr×Obj)} {σ:St} {H:Hp} {s:Shared} {l b:Addr} {xs ys zs:List V}
theorem Inv.lset {its its':List Value} (I:Inv X pins σ H s) (hH:H l=some (.lst xs))
  (e:s.heap.get? l=some { cls:=.type "list",data:=.seq its.toArray n }) (hf:f its.toArray=its'.toArray) (hv:cf ys its') (hz:ys.length<=sizeLine) :
  Inv X pins σ (upd H l (.lst ys)) { s with heap:=s.heap.update l (Obj.mapSeq f),toks:=t' }:=by
 have q:=iD e f;rw[hf] at q;refine I.write (x:=l) (e:=l) (by rw[hH];exact trivial) (.inl rfl) (λb' u hb hu=>(Heap.get?_update_other s.heap (Obj.mapSeq f) (Ne.symm hb)).trans hu) ⟨_,q⟩ ?_;exact ⟨hz,its',_,hv,q⟩
theorem Inv.lnew (I:Inv X pins σ H s) (hv:cf ys its) (hz:ys.length<=sizeLine) :
  Inv X pins σ (upd H s.heap.objs.size (.lst ys)) { s with heap:=s.heap.push { cls:=.type "list",data:=.seq its.toArray },toks:=t' } :=
 I.laid (λ_ _ q=>Heap.get?_push_of_some _ q) (ao _) ⟨hz,its,0,hv,Heap.get?_push_size _ rfl⟩
theorem Inv.fresh (I:Inv X pins σ H s):H s.heap.objs.size=none:=I.hok.fresh (ao _)
theorem Inv.lstM (I:Inv X pins σ H s) (hH:H l=some (.lst xs)):xs.length<=sizeLine/\∃(its:List Value) (n:Nat),cf xs its/\xs.length=its.length/\s.heap.get? l=some { cls:=.type "list",data:=.seq its.toArray n }:=by
 obtain ⟨z,its,n,r,e⟩:=I.hok l _ hH;exact ⟨z,its,n,r,r.length,e⟩
theorem E3 (h:n<=sizeLine):Builtin.List.listTooLong n=false:=by
 unfold Builtin.List.listTooLong;exact decide_eq_false (by lia)
end
section
variable {X:Cx}
def CS:V->List V->Hp->VK->Prop:=λx vs H Q=>∃l xs y,x=.ref l/\vs=[y]/\H l=some (.lst xs)/\xs.length < sizeLine/\Q .non (upd H l (.lst (xs++[y])))
theorem jg:Mi X "list.append" CS:=by
 intro pins s σ H x vs v us Q I rx rv h;obtain ⟨l,xs,y,rfl,rfl,hH,hz,q⟩:=h;cases rx;obtain ⟨u,rfl,ru⟩:=rv.one;obtain ⟨z,its,n,r,hl,e⟩:=I.lstM hH;refine call_meets F.slot_list_append ⟨_,e,rfl⟩ F.entry_list_append (F.args_list_append_2 _ _) (PySem.list_append l its.toArray n u (by rw[aI];lia)) ⟨e,?_⟩;refine ⟨.non,_,I.lset (its':=its++[u]) hH e (by simp) (r.append (.cons ru .nil)) ?_,rfl,q⟩;rw[aw,aS]
 lia
def JF:V->List V->Hp->VK->Prop:=λx vs H Q=>∃l xs i k y,x=.ref l/\vs=[.int i]/\H l=some (.lst xs)/\-(2^63)<=i/\i < 2^63/\seqIndex? i xs.length=some k/\xs[k]?=some y/\Q y (upd H l (.lst (xs.eraseIdx k)))
theorem E6:Mi X "list.pop" JF:=by
 intro pins s σ H x vs v us Q I rx rv h;obtain ⟨l,xs,i,k,y,rfl,rfl,hH,h1,h2,hk,hy,q⟩:=h;cases rx;obtain ⟨u,rfl,ru⟩:=rv.one;obtain ⟨t,rfl⟩:=ru;obtain ⟨z,its,n,r,hl,e⟩:=I.lstM hH;obtain ⟨w,hw,rw'⟩:=r.get hy
 refine call_meets F.slot_list_pop ⟨_,e,rfl⟩ F.entry_list_pop (F.args_list_pop_2 _ _)
  (MeetsSeq.list_pop_at l its.toArray n i t k w (fitsIndex_both h1 h2) (by rw[aI,<- hl];exact hk) (by rw[<- Array.getElem?_toList];exact hw) (by rw[aI];lia)) ⟨e,?_⟩
 refine ⟨y,_,I.lset (its':=its.eraseIdx k) hH e ?_ (r.eraseIdx k) ?_,rw',q⟩
 ·show its.toArray.eraseIdxIfInBounds k=(its.eraseIdx k).toArray
  rw[List.eraseIdxIfInBounds_toArray]
 ·have:=ya xs k
  lia
def Lc:R2:=λx y H Q=>∃l b xs zs,x=.ref l/\y=.ref b/\H l=some (.lst xs)/\H b=some (.lst zs)/\xs.length+zs.length<=sizeLine/\∀p,H p=none->Q (.ref p) (upd H p (.lst (xs++zs)))
theorem lN:sT X (binaryOp .Add) Lc:=by
 intro pins s σ H x y v u Q I rx ry h;obtain ⟨l,b,xs,zs,rfl,rfl,hH,hB,hz,q⟩:=h;cases rx;cases ry;obtain ⟨z,its,n,r,hl,e⟩:=I.lstM hH;obtain ⟨z2,its2,n2,r2,hl2,e2⟩:=I.lstM hB;refine PySem.P.add_list e e2 ?_ (by rw[aI,aI];lia);have ea:its.toArray++its2.toArray=(its++its2).toArray:=by simp
 rw[ea];exact ⟨.ref _,_,I.lnew (t':=s.toks) (r.append r2) (by rw[aw];lia),rfl,q _ I.fresh⟩
def La:R2:=λx y H Q=>∃l k xs,x=.ref l/\y=.int k/\H l=some (.lst xs)/\-(2^63)<=k/\k < 2^63/\xs.length*k.toNat<=sizeLine /\
 ∀p,H p=none->Q (.ref p) (upd H p (.lst (List.replicate k.toNat xs).flatten))
theorem len_rep {α:Type} (xs:List α) (k:Nat):(List.replicate k xs).flatten.length=k*xs.length:=by
 induction k with
 | zero=>simp
 | succ k ih=>rw[iO,gN,aw,ih,j3,uF]
theorem zE:sT X (binaryOp .Mult) La:=by
 intro pins s σ H x y v u Q I rx ry h;obtain ⟨l,k,xs,rfl,rfl,hH,h1,h2,hz,q⟩:=h;cases rx;obtain ⟨t,rfl⟩:=ry;obtain ⟨z,its,n,r,hl,e⟩:=I.lstM hH;have hlen:its.toArray.size*k.toNat<=sizeLine:=by rw[aI,<- hl];exact hz
 have hcap:¬its.toArray.size*k.toNat > (2^63 - 1) / 8:=by
  have:(sizeLine:Nat)<=(2^63 - 1) / 8:=by decide
  lia
 have hfit:¬(!Builtin.List.listFitsIndex k)=true:=by
  rw[fitsIndex_both h1 h2];exact aQ
 have hlong:¬Builtin.List.listTooLong (its.toArray.size*k.toNat)=true:=by
  rw[E3 hlen];exact aQ
 have hnew:List.foldl (λx1 x2=>x1++x2) #[] (List.replicate (if its.toArray.isEmpty=true then 0 else k.toNat) its.toArray)=(List.replicate k.toNat its).flatten.toArray:=by
  have f0:∀m:Nat,List.foldl (λx1 x2=>x1++x2) #[] (List.replicate m its.toArray)=(List.replicate m its).flatten.toArray:=λm=>by
   have:=foldl_rep its m [];rw[cx] at this;exact this
  rw[f0];cases its with
  | nil=>simp
  | cons a r'=>rw[if_neg (by simp)]
 refine wpAny_binaryOp_repeat_ref (T:="list") (U:="int") (by decide) ⟨_,e,rfl⟩ (λs'=>typeIs_int s' k t) noFill_list_mul F.fills_int_mul F.slot_int_rmul repeat_list F.slot_int_index.lookup
  (call_meets F.slot_int_rmul (typeIs_int s k t) F.entry_int_rmul (F.args_int_rmul_2 _ _) (int___rmul___int_list k t l its.toArray n)
   ⟨e,rfl,⟨_,e,rfl⟩,call_meets F.slot_list_mul ⟨_,e,rfl⟩ F.entry_list_mul (F.args_list_mul_2 _ _) (AutoListH.list___mul___list_int_3 l its.toArray n k t hfit hcap hlong) ⟨e,?_⟩⟩)
 rw[hnew];exact ⟨.ref _,_,I.lnew (t':=s.toks) (r.rep k.toNat) (by rw[len_rep,cp];exact hz),rfl,q _ I.fresh⟩
end
end L2
namespace Att
open PySem PySem.W PySem.Calls PyProof.Rows
theorem uo:∀(ns:List Int) (vs:List Value),WellAll P h vs (ns.map WData.int)->IntsAre vs ns:=by
 intro ns
 induction ns with
 | nil =>
  intro vs w;rw[List.map_nil] at w;cases w;exact .nil
 | cons n ns ih =>
  intro vs w;rw[fV] at w;cases w with
  | cons a b =>
   cases a;exact .cons _ _ (ih _ b)
theorem DP {l:OpenLaw} (hn:l.most=some n) 
  (hpre:l.row.toRowW.claim.pre args=true) (hwl:WellAll P h vals args) :
  ∃a vs ns,vals=[Value.ref a]/\args=[WData.list (ns.map WData.int)]/\h.get? a=some { cls:=.type "list",data:=.seq vs.toArray }/\IntsAre vs ns/\ns.length<=n:=by
 have hsh:WShape.hasAll [] args [.list .int]=true:=(pre_splitW hpre).1;have hc:l.pre.holds [] { args:=args }=true:=(pre_splitW hpre).2;obtain ⟨d,r,rfl,h1,h2⟩:=hasAllW_cons hsh;obtain rfl:=hasAllW_nil h2;obtain ⟨xs,rfl,h3⟩:=hasW_list h1;obtain ⟨ns,rfl⟩:=items_int h3
 have hlen:ns.length<=n:=by
  unfold OpenLaw.pre at hc
  have h4:(WTm.not (.lt (.lit (.int (n:Int))) (.len (.arg 0)))).holds [] { args:=[.list (ns.map .int)] }=true:=by
   have h4:=(holds_andW hc).1;rw[hn] at h4;exact h4
  have h5:=condW_of h4 (w_not (w_lt w_lit (w_len_list (w_arg rfl))));rw[ag] at h5;refine Nat.le_of_not_lt λq=>?_
  have q':(n:Int) < ((ns.length:Nat):Int):=by lia
  first
   | (rw[decide_eq_true q'] at h5;exact absurd h5 (by decide))
   | (simp at h5;lia)
 cases hwl with
 | cons w1 w2 =>
  cases w2;cases w1 with
  | list ho hall=>exact ⟨_,_,ns,rfl,rfl,ho,uo ns _ hall,hlen⟩
theorem DU (l:OpenLaw) (args:List WData):l.row.toRowW.claim.post args (.bool true) args=true :=
 postW_of (r:=l.row.toRowW) (X:=(true == true))
  (show WShape.has [] (.bool true) .bool=true by first | rfl | decide | simp [WShape.has,WShape.arms,WShape.armsAll])
  (show (WTm.eq .res (.lit (.bool true))).value [] { args:=args,res:=some (.bool true),after:=args }=some (.bool (true == true)) from w_eq_bool (w_res rfl) w_lit) rfl
theorem Bs {l:OpenLaw} 
  (hn:l.most=some n) (hdf:d.params.defaults=[])
  (call:∀(w:World) (s₀ s₁:Shared) (mg mb:Str->Option Value) (fa:Addr) (o:Obj) (pm cd doc:Value) (a:Addr) (vs:List Value) (ns:List Int),
   Ground q loose [] XP w s₀ mg mb s₁.heap->YP w s₁.heap →
   s₁.heap.get? fa=some o->o.data=.func (docDef d.name d.params d.body d.scope pm cd doc)->s₁.heap.CodeRec cd d.name->mg d.name=some (.ref fa) →
   s₁.heap.get? a=some { cls:=.type "list",data:=.seq vs.toArray }->IntsAre vs ns->ns.length<=n->s₁.gens=#[] →
   codeAny (model l.prog w) callerA (.call (.ref fa) ⟨[.ref a],[]⟩) (λr s'=>r=.ok (.ret (.bool true))/\OldK s₁.heap s'.heap/\s'.os=s₁.os/\AllBare s'.gens) s₁) :
  WalkO q loose XP YP l.row.toRowW d [] (λf vs=>PySem.call f vs):=by
 intro w s₀ s₁ mg mb G Y fa o pm cd doc dV kV ho hd hcd hD hmg hg args vals as hpre hlay hrd hwl hlo;obtain rfl:dV=.none:=Dflts.none hD hdf;obtain rfl:kV=.none:=Dflts.noKw hD;obtain ⟨a,vs,ns,rfl,rfl,hobj,hints,hlen⟩:=DP hn hpre hwl;refine enter_call (codeAny_mono (call w s₀ s₁ mg mb fa o pm cd doc a vs ns G Y ho (fd_plain hd) hcd hmg hobj hints hlen hg) λr s' hq=>?_);obtain ⟨rfl,h2,h3,h4⟩:=hq;exact ⟨.inl ⟨.bool true,.bool true,[],rfl,λ_=>rfl,.bool true,DU l _,λ_=>⟨List.Pairwise.nil,λ_ hm=>(nomatch hm)⟩⟩,h2,h3,h4⟩
section
variable {prog:Program} {w:World} {A:Around} {E:Value->Shared->Prop} {s:Shared} {K:Frag}
end
end Att
namespace L2
open PySem PySem.Spec PyProof.Rows
theorem xC:∀{vs:List Value} {ns:List Int},IntsAre vs ns->cf (ns.map V.int) vs
 | _,_,.nil=>.nil
 | _,_,.cons n t h=>.cons ⟨t,rfl⟩ (xC h)
def Km (H:Hp):Prop:=∀b,H b=none\/∃o xs,H b=some (.frz o (.lst xs))
theorem Ff {K:FG9} 
  (KX:K.In s₁.heap) (hns:s₁.heap.Ns mainGlobals mg) (hb:s₁.heap.Ns builtinsNs mb) (hbb:∀x:Str,x≠"__name__"->mb x=bootBuiltins x) (hlim:s₁.heap.NoLimit) (hg:s₁.gens=#[])
  (ha:s₁.heap.get? a=some { cls:=.type "list",data:=.seq vs.toArray }) (hi:IntsAre vs ns) (hl:ns.length<=sizeLine) (hr:ja k callerA)
  (F:∀base:Heap,K.In base->base.Ns mainGlobals mg->cz P w K mg base CX k fa fd [x] sp) (hbind:∀(s:Shared) (u:Value),BindsTo s fd ⟨[u],[]⟩ [(x,u)])
  (hsp:∀H:Hp,Km H->bD K H a (ns.map V.int)->sp [.ref a] H (λv _=>v=.bl true) λ_ _ _=>False)
  (hCX:∀H e s',CX [] H s₁ (λ_ _ _=>False) e s'->False) :
  codeAny (model P w) callerA (.call (.ref fa) ⟨[.ref a],[]⟩) (λr s'=>r=.ok (.ret (.bool true))/\OldK s₁.heap s'.heap/\s'.os=s₁.os/\AllBare s'.gens) s₁:=by
 have rv:=xC hi;have lenV:=hi.length
 have core:∀H:Hp,Km H->bD K H a (ns.map V.int)->uD P w H s₁.heap->(∀b,H b≠none->b=a)->(H a≠none->K.lookup a=none) →
   codeAny (model P w) callerA (.call (.ref fa) ⟨[.ref a],[]⟩) (λr s'=>r=.ok (.ret (.bool true))/\OldK s₁.heap s'.heap/\s'.os=s₁.os/\AllBare s'.gens) s₁:=by
  intro H hO hS hok hA hK;have base_of:∀{b:Addr} {o:Obj},s₁.heap.get? b=some o->H b=none->(z6 s₁.heap H).get? b=some o:=λe n=>Fp e n
  have noA:∀{b:Addr} {o:Obj} {es:Array DictEntry} {ep:Nat},s₁.heap.get? b=some o->o.data=.dict es ep->H b=none:=λ{b o es ep} e d=>by
   cases q:H b with
   | none=>rfl
   | some u =>
    have e':b=a:=hA b (by rw[q];simp);subst e';rw[ha] at e;cases e;have d':Data.seq vs.toArray _=Data.dict es ep:=d;cases d'
  have nsK:∀{b:Addr} {m:Str->Option Value},s₁.heap.Ns b m->(z6 s₁.heap H).Ns b m:=λ{b m} ⟨o,es,ep,e,d,r⟩=>⟨o,es,ep,base_of e (noA e d),d,r⟩
  have hKb:K.In (z6 s₁.heap H):=λb o e=>base_of (KX b o e) (by
   cases q:H b with
   | none=>rfl
   | some u =>
    have e':b=a:=hA b (by rw[q];simp);subst e';rw[hK (by rw[q];simp)] at e;cases e)
  have hM:Mod K mg (z6 s₁.heap H):=⟨hKb,nsK hns,⟨mb,nsK hb,hbb⟩,let ⟨mc,h1,h2⟩:=hlim;⟨mc,nsK h1,h2⟩⟩;have e0:Cy P w K mg (z6 s₁.heap H) callerA [] s₁ H:=⟨rfl,hM,λb o e=>HF e,Nat.le_of_eq (D9 _ _),trivial,λb hb=>absurd (show b∈([]:List Addr) from hb) (by simp),hok,.of_eq hg⟩;refine codeAny_mono ((F _ hKb (nsK hns)).run callerA [] s₁ H ⟨[.ref a],[]⟩ [.ref a] [.ref a] _ _ hr e0 (hbind s₁ (.ref a)) (.cons rfl .nil) (hsp H hO hS)) λr s' h=>?_
  cases r with
  | error e=>exact (hCX H e s' h).elim
  | ok fl =>
   cases fl with
   | next=>exact False.elim h
   | brk=>exact False.elim h
   | cont=>exact False.elim h
   | ret u =>
    obtain ⟨v,H',os,bare,un,hok',r',q⟩:=h;have q':v=.bl true:=q;subst q';obtain rfl:u=Value.bool true:=r';refine ⟨rfl,OldK.of_keep λb o e=>?_,os,bare⟩;cases q:H b with
    | none=>exact un.keep b o e q (by intro z;exact absurd (show b∈([]:List Addr) from z) (by simp)) (by simp)
    | some u =>
     rcases hO b with z | ⟨ob,xs,z⟩
     ·rw[q] at z;cases z
     ·have z2:=un.frzs b ob _ z;obtain ⟨e1,_⟩:=hok b _ z;obtain ⟨e2,_⟩:=hok' b _ z2;rw[e] at e1;cases e1;exact e2
 cases hk:K.lookup a with
 | some o =>
  have e:=KX a o hk;rw[ha] at e;cases e;refine core (λ_=>none) (λ_=>.inl rfl) (.inr ⟨_,vs.toArray,_,hk,rfl,rfl,rfl,by rw[aI,lenV];exact hl,by simpa using rv⟩) (λb u z=>by have z':(none:Option HO)=some u:=z;cases z') (λb z=>absurd rfl z) λz=>absurd rfl z
 | none =>
  refine core (λb=>if b=a then some (.frz { cls:=.type "list",data:=.seq vs.toArray } (.lst (ns.map V.int))) else none) (λb=>?_) (.inl (.inr ⟨{ cls:=.type "list",data:=.seq vs.toArray },if_pos rfl⟩)) (λb u z=>?_) (λb z=>?_) λ_=>hk
  ·by_cases hb:b=a
   ·exact .inr ⟨_,_,if_pos hb⟩
   ·exact .inl (if_neg hb)
  ·by_cases hb:b=a
   ·have z':=(if_pos hb).symm.trans z;cases z';subst hb;exact ⟨ha,by rw[ag];exact hl,vs,_,rv,ha⟩
   ·have z':=(if_neg hb).symm.trans z;cases z'
  ·by_cases hb:b=a
   ·exact hb
   ·exact absurd (if_neg hb) z
theorem F6 {l:PySem.W.OpenLaw} {K:Params->FG9} {CX:World->FT} {sp:World->Sp} 
  (hn:l.most=some n) (hn2:n<=sizeLine) (hdf:d.params.defaults=[]) (hr:ja k callerA)
  (hY:∀(w:World) (h:Heap),YP w h->(K w.params).In h)
  (F:∀(w:World) (mg:Str->Option Value) (fa:Addr) (h:Heap),(K w.params).In h->h.Ns mainGlobals mg->mg d.name=some (.ref fa) →
   ∃fd:FuncData,(∀(s:Shared) (u:Value),BindsTo s fd ⟨[u],[]⟩ [(x,u)]) /\
    ∀base:Heap,(K w.params).In base->base.Ns mainGlobals mg->cz l.prog w (K w.params) mg base (CX w) k fa fd [x] (sp w))
  (hsp:∀(w:World) (H:Hp) (a:Addr) (ns:List Int),ns.length<=n->Km H->bD (K w.params) H a (ns.map V.int)->sp w [.ref a] H (λv _=>v=.bl true) λ_ _ _=>False)
  (hCX:∀(w:World) (H:Hp) (s:Shared) (e:Value) (s':Shared),CX w [] H s (λ_ _ _=>False) e s'->False) :
  PySem.W.WalkO q loose XP YP l.row.toRowW d [] (λf vs=>PySem.call f vs):=by
 refine Att.Bs hn hdf λw s₀ s₁ mg mb fa o pm cd doc a vs ns G Y ho hd hcd hmg hobj hints hlen hg=>?_
 have KX:=hY w _ Y;obtain ⟨fd,hb,hF⟩:=F w mg fa _ KX G.T.g hmg;exact Ff KX G.T.g G.T.b G.T.builtins G.T.nolimit hg hobj hints (aj hlen hn2) hr hF hb (λH hO hS=>hsp w H a ns hlen hO hS) λH e s'=>hCX w H s₁ e s'
end L2

namespace L2
open PySem PySem.Spec PyProof.Rows
def inClass (s:Stmt) (j:Nat):Stmt:=match s with
 | .ClassDef _ _ _ body _ _ _ _ _ _ _=>body.getD j (.Pass ⟨0,0,0,0⟩)
 | _=>.Pass ⟨0,0,0,0⟩
def jV (s:Stmt):Arguments:=match s with
 | .FunctionDef _ a _ _ _ _ _ _ _ _=>a
 | _=>{ posonlyargs:=[],args:=[],vararg:=none,kwonlyargs:=[],kw_defaults:=[],kwarg:=none,defaults:=[] }
def iu (s:Stmt):List Stmt:=match s with
 | .FunctionDef _ _ b _ _ _ _ _ _ _=>b
 | _=>[]
def aJ (s:Stmt):Scope:=match s with
 | .FunctionDef _ _ _ _ _ _ sc _ _ _=>sc
 | _=>{ kind:=.function,names:=[],isGenerator:=false,isCoroutine:=false }
abbrev fb:FT:=λ_ _ _ _ _ _=>False
abbrev E0:XK:=λ_ _ _=>False
theorem EW:wN fb X E0:=λ_ _ _ _ _ _ _ h=>h.elim
structure Ih (K:FG9) (x qual:Str) (st:Stmt) (f:Addr) (fd:FuncData):Prop where
 ex:∃(oc:Value) (od:Option Addr) (kV doc pm:Value) (an:Option Addr) (cdv ct:Value) (osl:Array (Option Value)),
  fd=PySem.W.fnOf x qual (jV st) (iu st) (aJ st) .none kV doc pm an cdv ct/\K.lookup f=some ⟨oc,od,.func fd,osl⟩/\PySem.W.codeIn K cdv qual=true
 kp:PySem.W.keepIn K (.ref f)=true
section
variable {P:Program} {w:World} {K:FG9} {mg:Str->Option Value} {base:Heap}
theorem Ih.ok {st:Stmt} (F:Ih K x qual st f fd) (S:aU N ps (aJ st)) (len:∀vs H Q E,sp vs H Q E->vs.length=ps.length)
  (hbody:∀(cdv:Value) (A:Around) (outer:List Env) (s:Shared) (H:Hp) (vs:List V) (Q:VK) (E:XK),ja k (A.deeper (envOfC qual (aJ st) s.heap.objs.size f cdv))->sp vs H Q E →
   ∃t,Cw (Ed fb P w K mg base N qual (aJ st) f cdv A outer s H E).nox (iu st) t/\t { nx:=λ_ H'=>Q .non H',rt:=Q } (start N vs) H):cz P w K mg base fb (k+1) f fd ps sp:=by
 obtain ⟨oc,od,kV,doc,pm,an,cdv,ct,osl,rfl,lk,hcd⟩:=F.ex;refine Lu lk hcd S len λA outer s H vs Q E hr hsp=>?_
 obtain ⟨t,h,q⟩:=hbody cdv A outer s H vs Q E hr hsp;exact ⟨t,h.nox,q⟩
theorem Ih.binds {st:Stmt} (F:Ih K x qual st f fd)
  (h:∀(kV doc pm:Value) (an:Option Addr) (cdv ct:Value) (us:List Value),us.length=ps.length->bindArgs (PySem.W.fnOf x qual (jV st) (iu st) (aJ st) .none kV doc pm an cdv ct) ⟨us,[]⟩=pure (ps.zip us)):Binds K fd ps []:=by
 obtain ⟨oc,od,kV,doc,pm,an,cdv,ct,osl,rfl,lk,hcd⟩:=F.ex;exact .all (h kV doc pm an cdv ct)
theorem Fx {st:Stmt} {kV doc pm cdv ct:Value} (l:K.lookup f=some ⟨oc,od,.func (PySem.W.fnOf x qual (jV st) (iu st) (aJ st) .none kV doc pm an cdv ct),osl⟩)
  (c:PySem.W.codeIn K cdv qual=true) (k:PySem.W.keepIn K (.ref f)=true):Ih K x qual st f (PySem.W.fnOf x qual (jV st) (iu st) (aJ st) .none kV doc pm an cdv ct):=⟨⟨oc,od,kV,doc,pm,an,cdv,ct,osl,rfl,l,c⟩,k⟩
end
structure Df (K:FG9) (mg:Str->Option Value) (x:Str) (st:Stmt) (ps:List Str) (f:Addr) (fd:FuncData):Prop where
 m:mg x=some (.ref f)
 b:Binds K fd ps []
 F:Ih K x x st f fd
structure Dh (K:FG9) (x:Str) (st:Stmt) (f:Addr) (fd:FuncData):Prop where
 a:PySem.W.nsIn K mainGlobals x=some (some (.ref f))
 F:Ih K x x st f fd
theorem Lv {K:FG9} {st:Stmt} {kV doc pm cdv ct:Value} (a:PySem.W.nsIn K mainGlobals x=some (some (.ref f))) (l:K.lookup f=some ⟨oc,od,.func (PySem.W.fnOf x x (jV st) (iu st) (aJ st) .none kV doc pm an cdv ct),osl⟩) (c:PySem.W.codeIn K cdv x=true) (k:PySem.W.keepIn K (.ref f)=true):Dh K x st f (PySem.W.fnOf x x (jV st) (iu st) (aJ st) .none kV doc pm an cdv ct):=⟨a,Fx l c k⟩
theorem Dh.D {K:FG9} {x:Str} {st:Stmt} {f:Addr} {fd:FuncData} {ps:List Str} {mg:Str->Option Value} {h:Heap} (d:Dh K x st f fd) (X:K.In h) (G:h.Ns mainGlobals mg) (hb:∀(kV doc pm:Value) (an:Option Addr) (cdv ct:Value) (us:List Value),us.length=ps.length->bindArgs (PySem.W.fnOf x x (jV st) (iu st) (aJ st) .none kV doc pm an cdv ct) ⟨us,[]⟩=pure (ps.zip us):=by walk_at "b"):Df K mg x st ps f fd:=⟨PySem.W.mg_of X G d.a,d.F.binds hb,d.F⟩
theorem cE {X:Cx} {k k':Nat} {f:Addr} {fd:FuncData} {ps:List Str} {sp:Sp} {x:Str} {st:Stmt} {p pos:Pos} {e:Expr} {es:List Expr} {t:TA} (F:cz X.prog X.w X.K X.mg X.base fb k f fd ps sp) (hr:ja k' X.A) (D:Df X.K X.mg x st ps f fd) (ha:PA X (e :: es) t) (hle:k<=k':=by decide) (hg:Gl X x:=by exact rfl) (hdb:(x == ("__debug__":Str))=false:=by decide) (he:starEach (e :: es) X.env=(false,eval e X.env) :: starEach es X.env:=by rfl) (hpl:(backTo pos (starEach es X.env)).any (·.1)=false:=by rfl):PE X (.Call (.Name x p) (e :: es) [] pos) (Ey sp [] E0 t):=HB F (hr.mono hle) hg D.m D.F.kp D.b .nil EW ha hdb he hpl
theorem bc (h:n<=1000):n < sizeLine:=aV h (by decide)
section
variable {X:Cx}
theorem pv (i:Nat) {x:Str} {pos:Pos} (hN:X.N[i]?=some x:=by rfl) (hv:Md X.env.scope x:=by first | exact Or.inl rfl | exact Or.inr (Or.inl rfl) | exact Or.inr (Or.inr rfl)) (hd:(x == ("__debug__":Str))=false:=by decide)
  (hcd:(x == ("__classdict__":Str))=false:=by decide):PE X (.Name x pos) (Je i):=JL hN hv hd hcd
end
theorem Fj {A B:Prop} (h:B):if false=true then A else B:=by
 rw[if_neg aQ];exact h
theorem Lm {A B:Prop} (h:A):if true=true then A else B:=by
 rw[if_pos rfl];exact h
theorem fK {c A B:Prop} [Decidable c] (h1:c->A) (h2:¬c->B):if c then A else B:=by
 by_cases h:c
 ·rw[if_pos h];exact h1 h
 ·rw[if_neg h];exact h2 h
def aF (H H':Hp):Prop:=∀b o,H b=some o->H' b=some o
theorem aF.refl (H:Hp):aF H H:=λ_ _ h=>h
theorem aF.trans (a:aF H H1) (b:aF H1 H2):aF H H2:=λc o h=>b c o (a c o h)
theorem aF.free (e:aF H H') (h:H' l=Option.none):H l=Option.none:=by
 cases q:H l with
 | none=>rfl
 | some o =>
  rw[e l o q] at h;cases h
theorem aF.seq {K:FG9} (e:aF H H') (h:bD K H a xs):bD K H' a xs:=by
 rcases h with (h | ⟨o,h⟩) | h
 ·exact .inl (.inl (e _ _ h))
 ·exact .inl (.inr ⟨o,e _ _ h⟩)
 ·exact .inr h
end L2
namespace Nm
theorem Fv (a b:Int):Int.gcd b (a.fmod b)=Int.gcd a b:=by
 rw[Int.fmod_def,iG a b];apply Nat.dvd_antisymm
 ·apply FY
  ·exact dC ..
  ·have h1:=dC (a:=b) (b:=a - b*a.fdiv b);have h2:=dQ (a:=b) (b:=a - b*a.fdiv b);have h3:=Int.dvd_add h2 (jI (c:=a.fdiv b) h1);rwa [Int.sub_add_cancel] at h3
 ·apply FY
  ·exact dC ..
  ·exact Int.dvd_sub (dQ ..) (jI (dC ..))
theorem Fw (a b:Int):Int.gcd b (a % b)=Int.gcd a b:=by
 rw[Int.emod_def,iG a b];apply Nat.dvd_antisymm
 ·apply FY
  ·exact dC ..
  ·have h1:=dC (a:=b) (b:=a - b*(a / b));have h2:=dQ (a:=b) (b:=a - b*(a / b));have h3:=Int.dvd_add h2 (jI (c:=a / b) h1);rwa [Int.sub_add_cancel] at h3
 ·apply FY
  ·exact dC ..
  ·exact Int.dvd_sub (dQ ..) (jI (dC ..))
theorem HM (a b:Int) (h:b≠0):(a.fmod b).natAbs < b.natAbs:=by
 rcases Int.lt_or_gt_of_ne h with h | h
 ·have e:a.fmod b=-((-a).fmod (-b)):=by
   have:=Int.neg_fmod_neg (-a) (-b);simp only[Int.neg_neg] at this;exact this
  have h1:=Int.fmod_nonneg_of_pos (-a) (b:=-b) (by lia);have h2:=Int.fmod_lt_of_pos (-a) (b:=-b) (by lia)
  lia
 ·have h1:=Int.fmod_nonneg_of_pos a h;have h2:=Int.fmod_lt_of_pos a h
  lia
def g (t b:Int):Int:=(Int.gcd t b:Int)
def lo (t b:Int):Int:=t / g t b
def hi (t b:Int):Int:=b / g t b
theorem vS (h:b≠0):0 < g t b:=by
 unfold g;have:0 < Int.gcd t b:=F4 _ h
 lia
theorem vN (t b:Int):lo t b*g t b=t:=Int.ediv_mul_cancel (dC ..)
theorem sN (t b:Int):hi t b*g t b=b:=Int.ediv_mul_cancel (dQ ..)
theorem z7 (h:0 < b):0 < hi t b:=by
 have h1:=vS (t:=t) (b:=b) (by lia);have h2:=sN t b;by_cases h3:0 < hi t b
 ·exact h3
 ·have:hi t b*g t b<=0:=Int.mul_nonpos_of_nonpos_of_nonneg (by lia) (by lia)
  lia
theorem vL (h:b≠0):Int.gcd (lo t b) (hi t b)=1:=by
 have h1:=vS (t:=t) h;have e:=Int.gcd_mul_right (lo t b) (g t b) (hi t b);rw[vN,sN] at e;have e2:(g t b).natAbs=Int.gcd t b:=by unfold g;simp
 rw[e2] at e;have h2:0 < Int.gcd t b:=F4 _ h;exact Nat.eq_of_mul_eq_mul_right h2 (by rw[<- e,FW])
theorem vM (t b:Int):lo t b*b=t*hi t b:=by
 have h1:=vN t b;have h2:=sN t b
 calc lo t b*b=lo t b*(hi t b*g t b):=by rw[h2]
  _=(lo t b*g t b)*hi t b:=by rw[d4 (hi t b),<- cY]
  _=t*hi t b:=by rw[h1]
theorem mD (h:Int.gcd a b=1) (hd:a∣b*c):a∣c:=by
 have h1:a.natAbs∣b.natAbs*c.natAbs:=by rw[<- dI];exact dw.mpr hd
 have h2:Nat.Coprime a.natAbs b.natAbs:=h;exact dw.mp (h2.dvd_of_dvd_mul_left h1)
theorem uniq (hb:0 < b) (hd:0 < d) (h1:Int.gcd a b=1) (h2:Int.gcd c d=1) (e:a*d=c*b):a=c/\b=d:=by
 have e1:b∣d:=by
  have:b∣a*d:=⟨c,by rw[e,d4]⟩;exact mD (by rw[iG];exact h1) this
 have e2:d∣b:=by
  have:d∣c*b:=⟨a,by rw[<- e,d4]⟩;exact mD (by rw[iG];exact h2) this
 have e3:b=d:=Int.dvd_antisymm (by lia) (by lia) e1 e2;subst e3;exact ⟨pE (by lia) e,rfl⟩
theorem JT (hb:0 < b) (hd:0 < d) (h2:Int.gcd c d=1) (e:t*d=c*b):lo t b=c/\hi t b=d:=by
 refine uniq (z7 hb) hd (vL (by lia)) h2 ?_;have h:=vM t b;have hb':b≠0:=by lia
 apply pE hb'
 calc lo t b*d*b=lo t b*b*d:=by rw[cY,d4 d b,<- cY]
  _=t*hi t b*d:=by rw[h]
  _=t*d*hi t b:=by rw[cY,d4 (hi t b),<- cY]
  _=c*b*hi t b:=by rw[e]
  _=c*hi t b*b:=by rw[cY,d4 b,<- cY]
theorem JU (hb:0 < b) (h:Int.gcd a b=1):lo a b=a/\hi a b=b:=JT hb hb h rfl
theorem ko {a b:Int} (h:b≠0):a.natAbs<=(a*b).natAbs:=by
 rw[dI];exact c6 _ (Int.natAbs_pos.mpr h)
theorem lo_le (h:b≠0):(lo t b).natAbs<=t.natAbs:=by
 have:=ko (a:=lo t b) (b:=g t b) (by have:=vS (t:=t) h;lia);rwa [vN] at this
theorem IJ (h:b≠0):(hi t b).natAbs<=b.natAbs:=by
 have:=ko (a:=hi t b) (b:=g t b) (by have:=vS (t:=t) h;lia);rwa [sN] at this
def Sz (k:Nat) (x:Int):Prop:=x.natAbs < 2^k
theorem Sz.mono (h:Sz j x) (l:j<=k):Sz k x:=bf h (ar (by decide) l)
theorem Sz.mul (h1:Sz j x) (h2:Sz k y):Sz (j+k) (x*y):=by
 unfold Sz at *
 rw[dI,bI];exact Nat.mul_lt_mul'' h1 h2
theorem Sz.neg (h:Sz k x):Sz k (-x):=by unfold Sz at *;rw[pC];exact h
theorem Sz.le (h:Sz k y) (l:x.natAbs<=y.natAbs):Sz k x:=aV l h
theorem Sz.hi {k:Nat} {t b:Int} (h:Sz k b) (hb:b≠0):Sz k (hi t b):=h.le (IJ hb)
end Nm
namespace L2
open PySem PySem.Spec PyProof.Rows
structure Bk (env:Env) (scope:Scope) (own capN:List Str):Prop where
 kind:scope.kind=.function
 locs:∀y∈scope.names,y.2=.local->scope.names.lookup y.1=some .local
 ownk:∀x∈own,scope.names.lookup x=some .local\/scope.names.lookup x=some .cell
 cells:∀y∈scope.names,y.2=.cell->y.1∈own/\y.1∉capN
 frees:∀y∈scope.names,y.2=.free->y.1∈capN/\y.1∉own
 capf:∀x∈capN,scope.names.lookup x=some .free
 caps:∀x∈capN,env.kindOf x=some .cell\/env.kindOf x=some .free
def LR (scope:Scope) (own capN:List Str):Bool :=
 decide (scope.kind=.function) && scope.names.all (λy=>decide (y.2=.local->scope.names.lookup y.1=some .local) && decide (y.2=.cell->y.1∈own/\y.1∉capN) && decide (y.2=.free->y.1∈capN/\y.1∉own)) &&
 own.all (λx=>decide (scope.names.lookup x=some .local\/scope.names.lookup x=some .cell)) && capN.all λx=>decide (scope.names.lookup x=some .free)
def yA (env:Env):List Str->Bool
 | []=>true
 | x :: r=>(match env.kindOf x with | some .cell=>true | some .free=>true | _=>false) && yA env r
theorem Bq {env:Env}:∀{capN:List Str},yA env capN=true->∀x∈capN,env.kindOf x=some .cell\/env.kindOf x=some .free
 | [],_,_,h=>nomatch h
 | y :: r,h,x,hx=>by
  unfold yA at h;rw[c7] at h;rcases aE.mp hx with e | hx
  ·subst e;have h1:=h.1
   split at h1
   ·rename_i e;exact .inl e
   ·rename_i e;exact .inr e
   ·cases h1
  ·exact Bq h.2 x hx
theorem Bk.of (h1:LR scope own capN=true) (h2:yA env capN=true):Bk env scope own capN:=by
 unfold LR at h1;rw[c7,c7,c7,kT,kT,kT] at h1;obtain ⟨⟨⟨a1,a2⟩,a3⟩,a4⟩:=h1
 have a2':∀y∈scope.names,(y.2=.local->scope.names.lookup y.1=some .local)/\(y.2=.cell->y.1∈own/\y.1∉capN)/\(y.2=.free->y.1∈capN/\y.1∉own):=λy hy=>by
  have q:=a2 y hy;rw[c7,c7] at q;exact ⟨of_decide_eq_true q.1.1,of_decide_eq_true q.1.2,of_decide_eq_true q.2⟩
 exact ⟨of_decide_eq_true a1,λy hy=>(a2' y hy).1,λx hx=>of_decide_eq_true (a3 x hx),λy hy=>(a2' y hy).2.1,λy hy=>(a2' y hy).2.2,λx hx=>of_decide_eq_true (a4 x hx),Bq h2⟩
def de (env:Env):List (Str×NameKind)->List (Str×Addr)->List (Str×Addr)
 | [],acc=>acc
 | (n,k) :: r,acc=>if k == .free then de env r ((n,(env.cells.lookup n).getD 0) :: acc) else de env r acc
theorem fj (env:Env):∀(names:List (Str×NameKind)) (acc:List (Str×Addr)),de env names acc=de env names []++acc
 | [],_=>rfl
 | (n,k) :: r,acc=>by
  unfold de
  split
  ·rw[fj env r (_ :: acc),fj env r [_],bO];rfl
  ·exact fj env r acc
theorem mE (env:Env):∀(names:List (Str×NameKind)) {x:Str} {c:Addr},(x,c)∈de env names []->(x,NameKind.free)∈names/\c=(env.cells.lookup x).getD 0
 | [],_,_,h=>nomatch h
 | (n,k) :: r,x,c,h=>by
  unfold de at h
  split at h
  ·rename_i hk
   have ek:k=.free:=by simpa using hk
   subst ek;rw[fj] at h;rcases ax.mp h with h | h
   ·have q:=mE env r h;exact ⟨bF _ q.1,q.2⟩
   ·have e:(x,c)=(n,(env.cells.lookup n).getD 0):=by simpa using h
    cases e;exact ⟨cM,rfl⟩
  ·have q:=mE env r h;exact ⟨bF _ q.1,q.2⟩
theorem fJ {α:Type}:∀{l:List (Str×α)} {x:Str} {c:α},(x,c)∈l->∃d,l.lookup x=some d
 | (k,v) :: r,x,c,h=>by
  rw[iE];cases hb:x == k with
  | true=>exact ⟨v,rfl⟩
  | false =>
   rcases aE.mp h with e | h
   ·cases e;simp at hb
   ·exact fJ h
theorem mF (env:Env):∀(names:List (Str×NameKind)) {x:Str},(x,NameKind.free)∈names->∃c,(x,c)∈de env names []
 | (n,k) :: r,x,h=>by
  unfold de;rcases aE.mp h with e | h
  ·cases e;rw[if_pos (by decide),fj];exact ⟨_,bG _ cM⟩
  ·obtain ⟨c,q⟩:=mF env r h
   split
   ·rw[fj];exact ⟨c,mQ _ q⟩
   ·exact ⟨c,q⟩
theorem wd (h:∀y∈scope.names,y.2=.free->∃c,env.cells.lookup y.1=some c):closureFor scope env=pure (de env scope.names []):=by
 have gen:∀(names:List (Str×NameKind)) (acc:List (Str×Addr)) (f:Str×NameKind->List (Str×Addr)->Sem (ForInStep (List (Str×Addr)))),
   (∀name kind cells,f (name,kind) cells=if kind == .free then (do let a <- cellOf env name;pure (.yield ((name,a) :: cells))) else pure (.yield cells)) →
   (∀y∈names,y.2=.free->∃c,env.cells.lookup y.1=some c)->forIn names acc f=pure (de env names acc):=by
  intro names
  induction names with
  | nil=>intro acc f hf _;rw[yR];rfl
  | cons y r ih =>
   intro acc f hf hh;obtain ⟨n,k⟩:=y;rw[F3,hf];unfold de;by_cases hk:(k == NameKind.free)=true
   ·obtain ⟨c,hc⟩:=hh (n,k) cM (by simpa using hk);have hc':env.cells.lookup n=some c:=hc;have e:cellOf env n=pure c:=by unfold cellOf;rw[hc']
    rw[if_pos hk,if_pos hk,e,hc'];simp only[pure_bind,Option.getD_some];exact ih _ f hf λy hy=>hh y (bF _ hy)
   ·rw[if_neg hk,if_neg hk];simp only[pure_bind];exact ih _ f hf λy hy=>hh y (bF _ hy)
 simp only[closureFor];rw[gen scope.names [] _ (λname kind cells=>by cases hkc:kind == NameKind.free <;> simp [hkc]) h];rfl
theorem dU:∀(names:List (Str×NameKind)) (n:Nat) (acc:List (Str×Addr)),cellsFrom n names acc=cellsFrom n names []++acc
 | [],_,_=>rfl
 | (x,k) :: r,n,acc=>by
  unfold cellsFrom
  split
  ·rw[dU r (n+1) (_ :: acc),dU r (n+1) [_],bO];rfl
  ·exact dU r n acc
theorem iw:∀(names:List (Str×NameKind)) (n:Nat) {x:Str} {c:Addr},(x,c)∈cellsFrom n names []->(x,NameKind.cell)∈names
 | [],_,_,_,h=>nomatch h
 | (y,k) :: r,n,x,c,h=>by
  unfold cellsFrom at h
  split at h
  ·rename_i hk
   have ek:k=.cell:=by simpa using hk
   subst ek;rw[dU] at h;rcases ax.mp h with h | h
   ·exact bF _ (iw r _ h)
   ·have e:(x,c)=(y,n):=by simpa using h
    cases e;exact cM
  ·exact bF _ (iw r _ h)
def sR (env:Env) (scope:Scope) (C:Addr):Env :=
 { scope:=relabel scope env,locals:=C,globals:=env.globals,cells:=cellsFrom (C+1) scope.names (de env scope.names []),qual:=env.qual,func:=none,code:=env.code,frame:=env.frame,builtins:=env.builtins }
theorem A8 
  (h:Q (newEnv scope s.heap.objs.size g (cellsFrom (s.heap.objs.size+1) scope.names cl) qual none .none (some env) builtinsNs) { s with heap:=pushCells (s.heap.push { cls:=.type "dict",data:=.dict #[] }) scope.names }) :
  wpAny M A (newFunctionEnv scope g cl [] qual none .none (some env)) Q E s:=by
 simp only[newFunctionEnv,Option.isSome_some,if_true];refine wpAny_bind (wpAny_alloc ?_);refine wpAny_bind (wpAny_layCells _ (λname kind cells=>by cases hkc:kind == NameKind.cell <;> simp [hkc]) _ _ _ _ ?_);rw[show ({ s with heap:=s.heap.push { cls:=.type "dict",data:=.dict #[] } }:Shared).heap.objs.size=s.heap.objs.size+1 from Heap.size_push ..];rw[yR];exact wpAny_bind (wpAny_pure (wpAny_pure h))
theorem qD:∀{k:NameKind},(relabel scope env).names.lookup x=some k->∃k0,scope.names.lookup x=some k0/\(k=k0\/(k0=.free/\k=.cell)):=by
 unfold relabel;show ∀{k:NameKind},(scope.names.map λ(n,k)=>if (k == NameKind.free && env.scope.kind == .function && env.kindOf n == some .cell) then (n,NameKind.cell) else (n,k)).lookup x=some k->_
 induction scope.names with
 | nil=>intro k h;cases h
 | cons y r ih =>
  intro k h;obtain ⟨n,k1⟩:=y;rw[fV,iE] at h;rw[iE];by_cases hc:(k1 == NameKind.free && env.scope.kind == .function && env.kindOf n == some .cell)=true
  ·simp only[hc,if_true] at h;cases hb:x == n with
   | true =>
    simp only[hb] at h
    have e1:k1=.free:=by
     rw[c7,c7] at hc;simpa using hc.1.1
    cases h;exact ⟨k1,rfl,.inr ⟨e1,rfl⟩⟩
   | false=>simp only[hb] at h;exact ih h
  ·have hc':(k1 == NameKind.free && env.scope.kind == .function && env.kindOf n == some .cell)=false:=by simpa using hc
   simp only[hc',fG,if_false] at h;cases hb:x == n with
   | true=>simp only[hb] at h;cases h;exact ⟨_,rfl,.inl rfl⟩
   | false=>simp only[hb] at h;exact ih h
theorem AY:scope.names.lookup x=some .free->(relabel scope env).names.lookup x=some .cell\/(relabel scope env).names.lookup x=some .free:=by
 unfold relabel;show _->(scope.names.map λ(n,k)=>if (k == NameKind.free && env.scope.kind == .function && env.kindOf n == some .cell) then (n,NameKind.cell) else (n,k)).lookup x=some .cell\/(scope.names.map λ(n,k)=>if (k == NameKind.free && env.scope.kind == .function && env.kindOf n == some .cell) then (n,NameKind.cell) else (n,k)).lookup x=some .free
 induction scope.names with
 | nil=>intro h;cases h
 | cons y r ih =>
  intro h;obtain ⟨n,k1⟩:=y;rw[iE] at h;rw[fV];by_cases hc:(k1 == NameKind.free && env.scope.kind == .function && env.kindOf n == some .cell)=true
  ·simp only[hc,if_true,iE];cases hb:x == n with
   | true=>exact .inl rfl
   | false=>rw[hb] at h;exact ih h
  ·have hc':(k1 == NameKind.free && env.scope.kind == .function && env.kindOf n == some .cell)=false:=by simpa using hc
   simp only[hc',fG,if_false,iE];cases hb:x == n with
   | true=>rw[hb] at h;cases h;exact .inr rfl
   | false=>rw[hb] at h;exact ih h
structure Bz where
 s:Shared
 H:Hp
 fp:List Addr
 C:Addr
def uu (X:Cx) (own capN:List Str) (scope:Scope) (Z:Bz):Cx where
 prog:=X.prog
 w:=X.w
 K:=X.K
 mg:=X.mg
 base:=X.base
 A:=X.A
 N:=own++capN
 s₀:=Z.s
 H₀:=Z.H
 env:=sR X.env scope Z.C
 outer:=X.stack
 stack:=X.stack
 ex:=Z.fp
 fn:=λx=>own.contains x
 calm:=true
 pn:=[]
 xe:=λ_ _=>False
section
variable {X:Cx} {pins:List (Addr×Obj)} {σ:St} {own capN:List Str} {scope:Scope} {Z:Bz}
theorem fP (B:Bk X.env scope own capN) (I:Inv X pins σ Z.H Z.s) (h:(sR X.env scope Z.C).cells.lookup x=some c) :
  (x∈own/\(x,c)∈cellsFrom (Z.C+1) scope.names [])\/(x∈capN/\x∉own/\X.env.cells.lookup x=some c):=by
 have h':(cellsFrom (Z.C+1) scope.names (de X.env scope.names [])).lookup x=some c:=h;rw[dU] at h';rcases ax.mp (mem_of_lookup h') with m | m
 ·exact .inl ⟨(B.cells _ (iw _ _ m) rfl).1,m⟩
 ·obtain ⟨m1,e⟩:=mE _ _ m;obtain ⟨q1,q2⟩:=B.frees _ m1 rfl;obtain ⟨d,hd⟩:=I.ok.has x (B.caps x q1);rw[hd] at e;exact .inr ⟨q1,q2,by rw[hd,e];rfl⟩
theorem HX (B:Bk X.env scope own capN) (I:Inv X pins σ Z.H Z.s) (hx:x∈capN) (h:X.env.cells.lookup x=some c):(sR X.env scope Z.C).cells.lookup x=some c:=by
 have hm:(x,NameKind.free)∈scope.names:=mem_of_lookup (B.capf x hx);obtain ⟨c1,m1⟩:=mF X.env scope.names hm
 have hs:∃d,(sR X.env scope Z.C).cells.lookup x=some d:=by
  show ∃d,(cellsFrom (Z.C+1) scope.names (de X.env scope.names [])).lookup x=some d
  rw[dU];exact fJ (bG _ m1)
 obtain ⟨d,hd⟩:=hs;rcases fP B I hd with ⟨q,m⟩ | ⟨_,_,q⟩
 ·exact absurd hx (B.cells _ (iw _ _ m) rfl).2
 ·rw[h] at q;cases q;exact hd
theorem DW (h:Heap) (C:Addr) (hC:h.objs.size=C+1) (names:List (Str×NameKind)):CellsOk (pushCells h names) (C+1) (cellsFrom (C+1) names []):=by
 have q:=cellsFrom_ok names h (C+1) [] ⟨λ_ _ hm=>(nomatch hm),List.Pairwise.nil⟩ (by rw[hC];exact ao _);rwa [hC] at q
theorem Af (I:Inv X pins σ Z.H Z.s) (h:X.env.cells.lookup x=some c):@LT.lt Nat instLTNat c Z.s.heap.objs.size:=by
 obtain ⟨v,q⟩:=I.cell x c h;exact q.lt
theorem Kh (I:Inv X pins σ Z.H Z.s) (hc:X.calm=true) (B:Bk X.env scope own capN) (hC:Z.s.heap.objs.size<=Z.C) (hcl:CellsOk h1 (Z.C+1) (cellsFrom (Z.C+1) scope.names []))
  (hf:∀b∈Z.fp,ig X pins Z.H b/\@LT.lt Nat instLTNat b Z.s.heap.objs.size):(uu X own capN scope Z).Ok:=by
 refine ⟨I.ok.mod,B.kind,I.ok.glob,I.ok.blt,hC,λx y c h1 h2=>?_,λx hx=>?_,λx c hx h=>?_,λ_=>I.ok.hd hc,I.ok.frames,.inl rfl,λb hb=>⟨?_,λx c h=>?_⟩,I.bs,aj I.ok.bsz I.sz,λb o e hb=>?_,λb hb hz=>?_,I.stack,I.stkFree⟩
 ·rcases fP B I h1 with ⟨q1,m1⟩ | ⟨q1,n1,m1⟩ <;> rcases fP B I h2 with ⟨q2,m2⟩ | ⟨q2,n2,m2⟩
  ·exact name_of_addr hcl.apart m1 m2
  ·have l1:=(hcl.empty _ _ m1).2;have l2:=Af I m2
   lia
  ·have l1:=(hcl.empty _ _ m2).2;have l2:=Af I m1
   lia
  ·exact I.ok.inj x y c m1 m2
 ·have hx':(relabel scope X.env).names.lookup x=some .cell\/(relabel scope X.env).names.lookup x=some .free:=hx
  have hk:scope.names.lookup x=some .cell\/scope.names.lookup x=some .free:=by
   rcases hx' with h | h
   ·obtain ⟨k0,e,q | ⟨q,_⟩⟩:=qD h
    ·exact .inl (by rw[e,<- q])
    ·exact .inr (by rw[e,q])
   ·obtain ⟨k0,e,q | ⟨_,q⟩⟩:=qD h
    ·exact .inr (by rw[e,<- q])
    ·cases q
  show ∃c,(cellsFrom (Z.C+1) scope.names (de X.env scope.names [])).lookup x=some c
  rcases hk with h | h
  ·exact Kt.mp (uE scope.names (Z.C+1) _ (.inl h))
  ·obtain ⟨c,m⟩:=mF X.env scope.names (mem_of_lookup h);rw[dU];exact fJ (bG _ m)
 ·have ho:x∈own:=by have hx':own.contains x=true:=hx;simpa using hx'
  rcases fP B I h with ⟨_,m⟩ | ⟨_,n,_⟩
  ·have:=(hcl.empty _ _ m).2;have hC':Z.s.heap.objs.size<=Z.C:=hC;show Z.s.heap.objs.size<=c
   lia
  ·exact absurd ho n
 ·intro e;have e':@Eq Nat b Z.C:=e;have:=(hf b hb).2
  lia
 ·have l:=(hf b hb).2;rcases fP B I h with ⟨_,m⟩ | ⟨_,_,m⟩
  ·intro e;have e':@Eq Nat c b:=e;have:=(hcl.empty _ _ m).2
   lia
  ·exact (hf b hb).1.2.2.2.2.1 x c m
 ·obtain ⟨_,_,_,f3,_⟩:=(hf b hb).1;rcases f3 with f3 | f3
  ·exact I.ok.noex b o e f3
  ·exact absurd (bf (Heap.lt_size e) (aj I.ok.bsz f3)) (dG _)
 ·obtain ⟨_,f1,f2,_⟩:=(hf b hb).1;rcases aE.mp (I.stkSub b hz) with e | e
  ·exact f1 e
  ·exact f2 e
def Ei (k:Nat) (cap:List Nat) (σ:St):St:=List.replicate k none++cap.map λj=>(σ[j]?).join
def uf (X:Cx) (capN:List Str) (cap:List Nat):Prop:=cap.map (λj=>X.N[j]?)=capN.map some
theorem uf.get (h:uf X capN cap) {i:Nat} (e:capN[i]?=some x):∃j,cap[i]?=some j/\X.N[j]?=some x:=by
 have q:=congrArg (λl=>l[i]?) h;simp only[aD,e,Option.map_some] at q;cases hc:cap[i]? with
 | none=>rw[hc] at q;cases q
 | some j=>rw[hc] at q;exact ⟨j,rfl,by simpa using q⟩
theorem Br (I:Inv X pins σ Z.H Z.s) (B:Bk X.env scope own capN) (hcap:uf X capN cap)
  (kc:∀x c,X.env.cells.lookup x=some c->∀v,Z.s.heap.IsCell c v->h'.IsCell c v) {i:Nat} (e1:(own++capN)[i]?=some x) (e2:(Ei own.length cap σ)[i]?=some (some v)) :
  ∃u,RelV v u/\Look (sR X.env scope Z.C) h' m x u:=by
 have hi:own.length<=i:=by
  by_cases hi:own.length<=i
  ·exact hi
  ·exfalso
   unfold Ei at e2;rw[bZ (by simpa using hi),LI] at e2
   split at e2 <;> cases e2
 rw[bu hi] at e1;unfold Ei at e2;rw[bu (by simpa using hi),cX,aD] at e2;obtain ⟨j,hj,hN⟩:=hcap.get e1;rw[hj] at e2;have e3:(σ[j]?).join=some v:=by simpa using e2
 have e4:σ[j]?=some (some v):=by
  cases q:σ[j]? with
  | none=>rw[q] at e3;cases e3
  | some o=>rw[q] at e3;simp at e3;rw[e3]
 have hx:x∈capN:=av e1;have hk:=B.caps x hx;obtain ⟨m0,_,hl⟩:=I.loc;obtain ⟨u,r,l⟩:=hl j x v hN e4 (.inr hk);refine ⟨u,r,.inr ⟨AY (B.capf x hx),?_⟩⟩;rcases l with ⟨hk2,_⟩ | ⟨_,c,hc,z⟩
 ·rcases hk with hk | hk
  ·rw[hk] at hk2;cases hk2
  ·rw[hk] at hk2;cases hk2
 ·exact ⟨c,HX B I hx hc,kc x c hc _ z⟩
theorem Ls (I:Inv X pins σ Z.H Z.s) (h:b∈Ek X.stack):@LT.lt Nat instLTNat b Z.s.heap.objs.size:=by
 obtain ⟨_,o,ho,_⟩:=I.stack.mem h;exact Heap.lt_size ho
theorem HV {D:Addr} (I:Inv X pins σ Z.H Z.s) (hc:X.calm=true) (B:Bk X.env scope own capN) (hcap:uf X capN cap) (hC:Z.s.heap.objs.size<=Z.C)
  (hcl:CellsOk h1 (Z.C+1) (cellsFrom (Z.C+1) scope.names [])) (hf:∀b∈Z.fp,ig X pins Z.H b/\@LT.lt Nat instLTNat b Z.s.heap.objs.size)
  (hk:∀b o,Z.s.heap.get? b=some o->h1.get? b=some o) (hn:h1.Ns Z.C λ_=>none) (hD:Z.s.heap.objs.size<=D) (hDC:D≠Z.C) (hoD:h1.get? D=some oD) (hdD:∀v,oD.data≠.cell v) :
  Inv (uu X own capN scope Z) [(D,oD)] (Ei own.length cap σ) Z.H { Z.s with heap:=h1,toks:=t1 }:=by
 refine ⟨Kh I hc B hC hcl hf,rfl,I.bare,Un.kept hk,⟨_,hn,λi x v e1 e2 _=>Br I B hcap (λx c _ v z=>z.keeps hk) e1 e2⟩,λx c h=>?_,I.hok.fresh hC,λx c h=>?_,λp hp=>?_,I.hok.kept hk,?_⟩
 ·rcases fP B I h with ⟨_,m⟩ | ⟨_,_,m⟩
  ·exact ⟨none,(hcl.empty _ _ m).1⟩
  ·obtain ⟨v,q⟩:=I.cell x c m;exact ⟨v,q.keeps hk⟩
 ·rcases fP B I h with ⟨_,m⟩ | ⟨_,_,m⟩
  ·exact I.hok.fresh (by have:=(hcl.empty _ _ m).2;lia)
  ·exact I.freeC x c m
 ·have e:p=(D,oD):=by simpa [uu] using hp
  subst e;exact ⟨hoD,I.hok.fresh hD,hDC,λz=>dG _ (bf (Ls I z) hD),hdD⟩
 ·show (Ei own.length cap σ).length=(own++capN).length
  have:=congrArg List.length hcap;simp only[ag] at this;unfold Ei;simp [this]
theorem FR {σ':St} (I:Inv X pins σ Z.H Z.s) (B:Bk X.env scope own capN) (hcap:uf X capN cap) (hf:∀b∈Z.fp,ig X pins Z.H b/\@LT.lt Nat instLTNat b Z.s.heap.objs.size)
  (J:Inv (uu X own capN scope Z) pins' σ' H' s'):Inv (uu X own capN scope Z) pins' (Ei own.length cap σ) H' s':=by
 refine ⟨J.ok,J.os,J.bare,J.base,?_,J.cell,J.free,J.freeC,J.pin,J.hok,?_⟩
 ·obtain ⟨m,hn,_⟩:=J.loc;refine ⟨m,hn,λi x v e1 e2 _=>Br I B hcap (λx c hx v z=>?_) e1 e2⟩;obtain ⟨o,ho,hd⟩:=z;obtain ⟨sl,e⟩:=J.base.any ho (I.freeC x c hx) λz=>(hf c z).1.2.2.2.2.1 x c hx rfl
  exact ⟨_,e,hd⟩
 ·show (Ei own.length cap σ).length=(own++capN).length
  have:=congrArg List.length hcap;simp only[ag] at this;unfold Ei;simp [this]
theorem HW {σ':St} {D:Addr} (I:Inv X pins σ Z.H Z.s) (hf:∀b∈Z.fp,ig X pins Z.H b/\@LT.lt Nat instLTNat b Z.s.heap.objs.size) (hD:Z.s.heap.objs.size<=D)
  (J:Inv (uu X own capN scope Z) [(D,{ cls:=.type "list",data:=.seq its.toArray n })] σ' H' s') (r:cf ys its) (hz:ys.length<=sizeLine) :
  Inv X pins σ (upd H' D (.lst ys)) s':=by
 have pD:=J.pin (D,{ cls:=.type "list",data:=.seq its.toArray n }) (by simp);have ne:∀{b:Addr} {o:Obj},Z.s.heap.get? b=some o->b≠D:=λe z=>by subst z;exact dG _ (bf (Heap.lt_size e) hD)
 have nt:∀{b:Addr} {u:HO},H' b=some u->b≠D:=λe z=>by rw[z,pD.2.1] at e;cases e
 refine I.call' (ch:=Z.fp) J.os ⟨J.base.keep,J.base.slot,λb o e h hx=>?_,J.base.there,λb xs e=>?_,λb o u e=>?_,λb ps e=>?_⟩ (λb u e=>?_) J.bare λb hb=>?_
 ·rw[a7 (ne e)];exact J.base.free b o e h hx
 ·have q:=J.base.tups b xs e;rw[a7 (nt q)];exact q
 ·have q:=J.base.frzs b o u e;rw[a7 (nt q)];exact q
 ·obtain ⟨more,q⟩:=J.base.tbls b ps e;exact ⟨more,by rw[a7 (nt q)];exact q⟩
 ·by_cases hb:b=D
  ·subst hb;rw[aH] at e;cases e;exact ⟨hz,its,n,r,pD.1⟩
  ·rw[a7 hb] at e;exact (J.hok b u e).stay (λc v _ q=>q) (λc q=>by rw[a7 (nt q)];exact q) λc xs q=>by rw[a7 (nt q)];exact q
 ·obtain ⟨_,f1,_,f3,f4,f5⟩:=(hf b hb).1;exact ⟨f3,f1,f4,f5⟩
end
theorem Jd {t:Sem α} {Q Q':α->Shared->Prop} (h:wpAny M A t Q (λ_ _=>False) s) (hQ:∀a s,Q a s->Q' a s):wpAny M A t Q' E s :=
 wpAny_mono h hQ λ_ _ z=>False.elim z
theorem Ae (I:Nat->Shared->Prop)
  (turn:∀(E:Value->Shared->Prop) n s,I n s->wpAny (model prog w) A (pyNext it) (λr s₁=>match r with
   | none=>R (.ok .next) s₁
   | some v=>wpAny (model prog w) A (letOwnedTupleGo target it v) (λ_ s₂=>wpAny (model prog w) A (assign target env v) (λ_ s₃ =>
     wpAny (model prog w) A (forIn ifs true λc r=>if r=true then do let ok <- isTrue c env (eval c env);pure (ForInStep.yield ok) else pure (ForInStep.yield r)) (λok s₄ =>
      if ok=true then wpAny (model prog w) A (eval elt env) (λx s₅=>wpAny (model prog w) A (call (.builtin "list.append") [acc,x]) (λ_ s₆=>∃m,m < n/\I m s₆) E s₅) E s₄
      else ∃m,m < n/\I m s₄) E s₃) E s₂) E s₁) E s)
  (n:Nat) (h:I n s):codeAny (model prog w) A (.compLoop (.ListComp elt [⟨target,iter,ifs,0⟩] scope pos) 0 it acc env) R s:=by
 refine codeAny_loop rfl I (λn s hI=>?_) n h;show wpAny _ A ((compTurn (.ListComp elt [⟨target,iter,ifs,0⟩] scope pos) 0 it acc env).onRaise (λx=>do noteFrame x env;theTreesLotGoes x)) _ _ s
 refine wpAny_noted ?_;rw[compTurn_list];refine wpAny_bind (wpAny_standAt (wpAny_bind (wpAny_mono (turn _ n s hI) (λr s₁ h₁=>?_) λ_ _ h'=>h')));cases r with
 | none=>exact wpAny_pure h₁
 | some v =>
  refine wpAny_bind (wpAny_mono h₁ (λ_ s₂ h₂=>wpAny_bind (wpAny_mono h₂ (λ_ s₃ h₃=>wpAny_bind (wpAny_mono h₃ (λok s₄ h₄=>?_) λ_ _ h'=>h')) λ_ _ h'=>h')) λ_ _ h'=>h');cases ok with
  | false=>exact wpAny_pure ⟨rfl,h₄⟩
  | true =>
   exact wpAny_bind (wpAny_bind (wpAny_mono h₄ (λx s₅ h₅=>wpAny_bind (wpAny_mono h₅ (λ_ s₆ h₆=>wpAny_pure (wpAny_pure ⟨rfl,h₆⟩)) λ_ _ h'=>h')) λ_ _ h'=>h'))
def PF (X:Cx) (ifs:List Expr) (t:TT):Prop :=
 ∀(pins:List (Addr×Obj)) (s:Shared) (σ:St) (H:Hp) (Q:Bool->Hp->Prop),Inv X pins σ H s->t σ H Q →
  wpAny (model X.prog X.w) X.A (forIn ifs true λc r=>if r=true then do let ok <- isTrue c X.env (eval c X.env);pure (ForInStep.yield ok) else pure (ForInStep.yield r)) (TP X pins σ Q) X.xe s
def Ky:TT:=λ_ H Q=>Q true H
theorem bT:PF X [] Ky:=λ_ _ _ H _ I h=>wpAny_tests_nil ⟨H,I,h⟩
theorem zz (h:PT X c t):PF X [c] t:=λpins s σ H Q I hw=>wpAny_tests_one (h pins s σ H Q I hw)
def mU (σ₀:St) (g:TG) (tf:TT) (te:TE) (x:V) (H:Hp) (NY:V->Hp->Prop) (NN:Hp->Prop):Prop :=
 g x σ₀ H λσ2 H2=>tf σ2 H2 λb H3=>if b=true then te σ2 H3 NY else NN H3
def oh (J:It) (σ₀:St) (g:TG) (tf:TT) (te:TE) (Q:VK) (H1:Hp):Prop :=
 ∃W:Nat->Nat->List V->Hp->Prop,(∃m,W 0 m [] H1)/\∀i m ys H,W i m ys H →
  (J.stop i H/\ys.length<=sizeLine/\∀p,H p=none->Q (.ref p) (upd H p (.lst ys))) \/
  (J.go i H/\ys.length < sizeLine/\∃(NY:V->Hp->Prop) (NN:Hp->Prop),(∀y H',NY y H'->∃m',m' < m/\W (i+1) m' (ys++[y]) H')/\(∀H',NN H'->∃m',m' < m/\W (i+1) m' ys H') /\
   ∀x H',J.yld i H x H'->mU σ₀ g tf te x H' NY NN)
def AA (wi:TI) (k:Nat) (cap:List Nat) (g:TG) (tf:TT) (te:TE):TE:=λσ H Q=>wi σ H λJ H1=>oh J (Ei k cap σ) g tf te Q H1
abbrev lobj (its:List Value) (n:Nat):Obj:={ cls:=.type "list",data:=.seq its.toArray n }
section
variable {X:Cx} {own capN:List Str} {cap:List Nat} {scope:Scope} {elt tg iter:Expr} {ifs:List Expr} {pos:Pos} {wi:TI} {g:TG} {tf:TT} {te:TE}
theorem yx (hc:X.calm=true) (B:Bk X.env scope own capN) (hcap:uf X capN cap)
  (hi:PI X tg iter wi) (hg:∀Z,PG (uu X own capN scope Z) tg g) (hf:∀Z,PF (uu X own capN scope Z) ifs tf) (he:∀Z,PE (uu X own capN scope Z) elt te)
  (hs:∀x,foldedSetIterable iter X.env x=pure x) {σ:St} (I:Inv X pins σ H s) (h:AA wi own.length cap g tf te σ H Q)
  (fin:∀(D C:Addr) (s':Shared) (H':Hp),Inv X pins σ H' s'->ig X pins H' C->(∃m,s'.heap.Ns C m)->Q (.ref D) H'->compPost (model X.prog X.w) X.A X.xe use Qe (.ref D) C (.ok .next) s') :
  wpAny (model X.prog X.w) X.A (comprehension (.ListComp elt [⟨tg,iter,ifs,0⟩] scope pos) scope X.env fpos (newList []) false (eval iter X.env) use) Qe X.xe s:=by
 refine wpAny_comprehension_free (use:=use) rfl hs (wd λy hy hk=>I.ok.has y.1 (B.caps _ (B.frees y hy hk).1)) B.kind B.locs ?_;refine eJ (hi pins s σ H _ I h) λv s1 h1=>eJ h1 λitv s2 h2=>?_
 obtain ⟨it,fp,tn,J,H2,e,I2,T,st2,f2,W,⟨m0,w0⟩,turn⟩:=h2;subst e;have hfp:∀b∈fp,ig X pins H2 b/\@LT.lt Nat instLTNat b s2.heap.objs.size:=λb hb=>⟨f2 b hb,let ⟨_,e,_⟩:=T.obj _ _ st2 b hb;Heap.lt_size e⟩
 refine wpAny_newObj_type (A8 ?_) (bo _);have es:(s2.heap.push { cls:=.type "list",data:=.seq ([]:List Value).toArray }).objs.size=s2.heap.objs.size+1:=Heap.size_push ..
 show codeAny _ _ (.compStart _ 0 (.ref it) (.ref s2.heap.objs.size) { newEnv scope (s2.heap.push { cls:=.type "list",data:=.seq ([]:List Value).toArray }).objs.size X.env.globals (cellsFrom ((s2.heap.push { cls:=.type "list",data:=.seq ([]:List Value).toArray }).objs.size+1) scope.names (de X.env scope.names [])) X.env.qual none .none (some X.env) builtinsNs with scope:=relabel scope X.env })
  (compPost (model X.prog X.w) X.A X.xe use Qe (.ref s2.heap.objs.size) (s2.heap.push { cls:=.type "list",data:=.seq ([]:List Value).toArray }).objs.size)
  { s2 with heap:=pushCells ((s2.heap.push { cls:=.type "list",data:=.seq ([]:List Value).toArray }).push { cls:=.type "dict",data:=.dict #[] }) scope.names }
 have hk1:∀b o,(s2.heap.push { cls:=.type "list",data:=.seq ([]:List Value).toArray }).get? b=some o->(pushCells ((s2.heap.push { cls:=.type "list",data:=.seq ([]:List Value).toArray }).push { cls:=.type "dict",data:=.dict #[] }) scope.names).get? b=some o :=
  λb o e=>pushCells_keeps _ _ _ _ (Heap.get?_push_of_some _ e)
 have hk:∀b o,s2.heap.get? b=some o->(pushCells ((s2.heap.push { cls:=.type "list",data:=.seq ([]:List Value).toArray }).push { cls:=.type "dict",data:=.dict #[] }) scope.names).get? b=some o:=λb o e=>hk1 b o (Heap.get?_push_of_some _ e)
 have hoD:=hk1 s2.heap.objs.size _ (Heap.get?_push_size s2.heap (o:={ cls:=.type "list",data:=.seq ([]:List Value).toArray }) rfl);have hn:=(Heap.Ns.new (s2.heap.push { cls:=.type "list",data:=.seq ([]:List Value).toArray }) (.type "dict")).keeps (pushCells_keeps scope.names _);have hcl:=DW ((s2.heap.push { cls:=.type "list",data:=.seq ([]:List Value).toArray }).push { cls:=.type "dict",data:=.dict #[] }) (s2.heap.objs.size+1) (by rw[Heap.size_push,es]) scope.names;rw[es] at hn ⊢;generalize pushCells ((s2.heap.push { cls:=.type "list",data:=.seq ([]:List Value).toArray }).push { cls:=.type "dict",data:=.dict #[] }) scope.names=h3 at hk hoD hn hcl ⊢;have Z:Bz:=⟨s2,H2,fp,s2.heap.objs.size+1⟩
 have I3:Inv (uu X own capN scope ⟨s2,H2,fp,s2.heap.objs.size+1⟩) [(s2.heap.objs.size,lobj [] 0)] (Ei own.length cap σ) H2 { s2 with heap:=h3 } :=
  HV (Z:=⟨s2,H2,fp,s2.heap.objs.size+1⟩) (t1:=s2.toks) I2 hc B hcap (mO _) hcl hfp hk hn (ao _) (cm (dA _)) hoD (λv z=>nomatch z)
 have st3:tn 0 h3:=T.keep _ _ _ st2 λb _ o e=>hk b o e
 have loop:codeAny (model X.prog X.w) X.A (.compLoop (.ListComp elt [⟨tg,iter,ifs,0⟩] scope pos) 0 (.ref it) (.ref s2.heap.objs.size) (sR X.env scope (s2.heap.objs.size+1))) (compPost (model X.prog X.w) X.A X.xe use Qe (.ref s2.heap.objs.size) (s2.heap.objs.size+1)) { s2 with heap:=h3 }:=by
  refine Ae (λm s'=>∃i ys σ' H' its n,Inv (uu X own capN scope ⟨s2,H2,fp,s2.heap.objs.size+1⟩) [(s2.heap.objs.size,lobj its n)] σ' H' s'/\tn i s'.heap/\(∀b∈fp,H' b=none)/\cf ys its/\W i m ys H') ?_ m0
   ⟨0,[],_,H2,[],0,I3,st3,λb hb=>(f2 b hb).1,.nil,w0⟩
  rintro E n s4 ⟨i,ys,σ4,H4,its,k,I4,st4,fr4,rv,w4⟩
  have fpo:∀{pp:List (Addr×Obj)} {H':Hp},(∀p∈pp,p.1=s2.heap.objs.size)->(∀b∈fp,H' b=none)->∀b∈fp,ig (uu X own capN scope ⟨s2,H2,fp,s2.heap.objs.size+1⟩) pp H' b:=λ{pp H'} hpp hn b hb=>by
   obtain ⟨e1,e2⟩:=I4.ok.exf b hb;refine ⟨hn b hb,e1,I4.ok.exfs b hb,.inl hb,e2,λp hp=>?_⟩;have hp':p∈pp:=by simpa [uu] using hp
   have l:=(hfp b hb).2;rw[hpp p hp'];exact λz=>dG _ (by rw[<- z] at l;exact l)
  have pinD:∀{its:List Value} {n:Nat},∀p∈[(s2.heap.objs.size,lobj its n)],p.1=s2.heap.objs.size:=λp hp=>by simp at hp;rw[hp]
  rcases turn i n ys H4 w4 with ⟨stop,hz,q⟩ | ⟨go,hlt,NY,NN,hNY,hNN,step⟩
  ·refine eJ (T.done (uu X own capN scope ⟨s2,H2,fp,s2.heap.objs.size+1⟩) rfl rfl rfl rfl i _ s4 σ4 H4 E I4 (fpo pinD fr4) st4 stop) λr s5 ⟨hr,I5⟩=>?_
   subst hr;have pD:=I5.pin (s2.heap.objs.size,lobj its k) (by simp);have I6:=HW (Z:=⟨s2,H2,fp,s2.heap.objs.size+1⟩) I2 hfp (ao _) I5 rv hz
   have hC:upd H4 s2.heap.objs.size (.lst ys) (s2.heap.objs.size+1)=none:=by
    rw[a7 (DB (dA _))];exact I5.free
   obtain ⟨m,hm,_⟩:=I5.loc;exact fin _ _ s5 _ I6 (I2.fpOk (mO _) hC) ⟨m,hm⟩ (q _ pD.2.1)
  ·refine eJ (T.item (uu X own capN scope ⟨s2,H2,fp,s2.heap.objs.size+1⟩) rfl rfl rfl rfl i _ s4 σ4 H4 E I4 (fpo pinD fr4) st4 go) λr s5 ⟨u,hr,h5⟩=>?_
   subst hr;refine eJ h5 λ_ s6 ⟨x,H6,I6,r6,y6,st6,fr6⟩=>?_
   have I6':=(FR (Z:=⟨s2,H2,fp,s2.heap.objs.size+1⟩) I2 B hcap hfp I6).pinned (fpo pinD fr6) (T.obj _ _ st6)
   have back:∀{σ7:St} {H7:Hp} {s7:Shared},Inv (uu X own capN scope ⟨s2,H2,fp,s2.heap.objs.size+1⟩) ([(s2.heap.objs.size,lobj its k)]++vm fp s6.heap) σ7 H7 s7 →
     Inv (uu X own capN scope ⟨s2,H2,fp,s2.heap.objs.size+1⟩) [(s2.heap.objs.size,lobj its k)] σ7 H7 s7/\tn (i+1) s7.heap/\∀b∈fp,H7 b=none:=λ{σ7 H7 s7} I7=>by
    refine ⟨I7.unpinned,T.keep _ _ _ st6 λb hb o e=>(I7.pin (b,o) (bG _ (bG _ (mB hb e)))).1,λb hb=>?_⟩;obtain ⟨o,e,d⟩:=T.obj _ _ st6 b hb;exact (I7.pin (b,o) (bG _ (bG _ (mB hb e)))).2.1
   refine Jd (hg _ _ s6 _ H6 x u _ I6' r6 (step x H6 y6)) λ_ s7 ⟨σ7,H7,I7,q7⟩=>?_
   refine Jd (hf _ _ s7 σ7 H7 _ I7 q7) λok s8 ⟨H8,I8,q8⟩=>?_
   cases ok with
   | false =>
    rw[if_neg aQ] at q8 ⊢;obtain ⟨m',hm,w8⟩:=hNN H8 q8;obtain ⟨J1,J2,J3⟩:=back I8;exact ⟨m',hm,i+1,ys,σ7,H8,its,k,J1,J2,J3,rv,w8⟩
   | true =>
    rw[if_pos rfl] at q8 ⊢;refine Jd (he _ _ s8 σ7 H8 _ I8 q8) λz s9 ⟨y,H9,I9,r9,q9⟩=>?_
    obtain ⟨J1,J2,J3⟩:=back I9;obtain ⟨m',hm,w9⟩:=hNY y H9 q9;have pD:=J1.pin (s2.heap.objs.size,lobj its k) (by simp);have hl:=rv.length;refine call_meets F.slot_list_append ⟨_,pD.1,rfl⟩ F.entry_list_append (F.args_list_append_2 _ _) (PySem.list_append s2.heap.objs.size its.toArray k z (by rw[aI];lia)) ⟨pD.1,?_⟩;have e9:=iD pD.1 (λa=>a.push z);have e9':(its.toArray.push z)=(its++[z]).toArray:=by simp
    rw[e9'] at e9;obtain ⟨n',e9⟩:∃n',(s9.heap.update s2.heap.objs.size (Obj.mapSeq λa=>a.push z)).get? s2.heap.objs.size=some (lobj (its++[z]) n'):=⟨_,e9⟩
    have J4:Inv (uu X own capN scope ⟨s2,H2,fp,s2.heap.objs.size+1⟩) [] σ7 H9 { s9 with heap:=s9.heap.update s2.heap.objs.size (Obj.mapSeq λa=>a.push z),toks:=s9.toks } :=
     (J1.pins_of (pins':=[]) λp hp=>nomatch hp).turned (λb o hb e=>(Heap.get?_update_other s9.heap _ (Ne.symm hb)).trans e) pD.2.1 pD.2.2.1 (.inr (ao _)) (λx c hx z=>by
      rcases fP (Z:=⟨s2,H2,fp,s2.heap.objs.size+1⟩) B I2 hx with ⟨_,m⟩ | ⟨_,_,m⟩
      ·have:=(hcl.empty _ _ m).2;have z':@Eq Nat c s2.heap.objs.size:=z
       lia
      ·have:=Af (Z:=⟨s2,H2,fp,s2.heap.objs.size+1⟩) I2 m;rw[z] at this;exact dG _ this) λp hp=>by simp [uu] at hp
    have nfp:∀b∈fp,b≠s2.heap.objs.size:=λb hb z=>by have:=(hfp b hb).2;rw[z] at this;exact dG _ this
    refine ⟨m',hm,i+1,ys++[y],σ7,H9,its++[z],n',J4.pins_of λp hp=>?_,T.keep _ _ _ J2 λb hb o e=>(Heap.get?_update_other s9.heap _ (Ne.symm (nfp b hb))).trans e,J3,rv.append (.cons r9 .nil),w9⟩;have ep:p=(s2.heap.objs.size,lobj (its++[z]) n'):=by simpa using hp
    rw[ep];exact ⟨e9,pD.2.1,pD.2.2.1,pD.2.2.2.1,λv z=>nomatch z⟩
 exact codeAny_compStart_list loop (T.self _ _ _ _ _ st3 loop)
theorem bJ (own capN:List Str) (cap:List Nat) (hi:PI X tg iter wi) (hg:∀Z,PG (uu X own capN scope Z) tg g) (hf:∀Z,PF (uu X own capN scope Z) ifs tf) (he:∀Z,PE (uu X own capN scope Z) elt te)
  (h1:LR scope own capN=true:=by decide +kernel) (h2:yA X.env capN=true:=by rfl) (hcap:uf X capN cap:=by rfl) (hc:X.calm=true:=by rfl) (hs:∀x,foldedSetIterable iter X.env x=pure x:=by intro _;rfl) :
  PE X (.ListComp elt [⟨tg,iter,ifs,0⟩] scope pos) (AA wi own.length cap g tf te):=by
 intro pins s σ H Q I h;rw[eval_ListComp];refine yx (use:=none) hc (Bk.of h1 h2) hcap hi hg hf he hs I h λD C s' H' I' fC hm q=>?_
 obtain ⟨m,hm⟩:=hm;refine ⟨m,hm,λh' hs'=>?_⟩;obtain ⟨f0,f1,f2,f3,f4,f5⟩:=fC;exact ⟨.ref D,H',I'.turned (t':=s'.toks) (λb o hb e=>(hs'.2 b hb).trans e) f0 f1 f3 f4 f5,rfl,q⟩
theorem ik (i:Nat) (own capN:List Str) (cap:List Nat) {x:Str} {pos' spos:Pos} (hN:X.N.Nodup) (hi':X.N[i]?=some x) (hx:X.env.scope.names.lookup x=some .local) (hi:PI X tg iter wi) (hg:∀Z,PG (uu X own capN scope Z) tg g) (hf:∀Z,PF (uu X own capN scope Z) ifs tf) (he:∀Z,PE (uu X own capN scope Z) elt te)
  (h1:LR scope own capN=true:=by decide +kernel) (h2:yA X.env capN=true:=by rfl) (hcap:uf X capN cap:=by rfl) (hc:X.calm=true:=by rfl) (hs:∀x,foldedSetIterable iter X.env x=pure x:=by intro _;rfl)
  (hsw:swapsWith (.ListComp elt [⟨tg,iter,ifs,0⟩] scope pos) (some (.Name x pos')) spos.line X.env=pure true:=by rfl) :
  PS X (.Assign [.Name x pos'] (.ListComp elt [⟨tg,iter,ifs,0⟩] scope pos) spos) (F9 (AA wi own.length cap g tf te) (De i)):=by
 intro pins s σ H D I h;rw[exec_Assign_Name_used _ _ _ _ hsw];refine wpAny_bind (wpAny_standAt (wpAny_bind ?_));rw[arm_evalThenUse_ListComp];refine wpAny_bind (yx (Q:=λv H1=>D.nx (σ.set i (some v)) H1) (use:=some _) hc (Bk.of h1 h2) hcap hi hg hf he hs I h λL C s' H' I' fC hm q=>?_);obtain ⟨m,hm⟩:=hm;obtain ⟨f0,f1,f2,f3,f4,f5⟩:=fC;refine wpAny_assign_Name (xF I' hN hi' (.inl hx) (v:=.ref L) rfl (λs'' I'' ⟨a,sb,ha⟩=>?_) (.inr hx))
 have hCa:C≠a:=by
  rcases ha with e | e
  ·rw[e];exact f1
  ·exact (f4 x a e).symm
 refine ⟨m,hm.at' λo e=>(sb.2 C hCa).trans e,λh' hs'=>?_⟩;have I3:=I''.turned (h':=h') (t':=s''.toks) (λb o hb e=>(hs'.2 b hb).trans e) f0 f1 f3 f4 f5;exact wpAny_pure (wpAny_pure ⟨_,H',I3,q⟩)
end
section
variable {K:FG9} {a:Addr} {xs:List V} {g:TG} {tf:TT} {te:TE} {Q:VK} {σ₀:St} {H:Hp}
theorem cW (Pv:Nat->List V->Hp->Prop) (hz:xs.length<=sizeLine) (h0:Pv 0 [] H) (hl:∀i ys H,i<=xs.length->Pv i ys H->bD K H a xs)
  (hs:∀i x ys H,xs[i]?=some x->ys.length<=i->Pv i ys H->mU σ₀ g tf te x H (λy H'=>Pv (i+1) (ys++[y]) H') (λH'=>Pv (i+1) ys H'))
  (hd:∀ys H,ys.length<=xs.length->Pv xs.length ys H->∀p,H p=none->Q (.ref p) (upd H p (.lst ys))):oh (Ie K a) σ₀ g tf te Q H:=by
 refine ⟨λi m ys H=>m=xs.length - i/\i<=xs.length/\ys.length<=i/\Pv i ys H,⟨xs.length,by simp,bo _,bo _,h0⟩,?_⟩;rintro i m ys H ⟨rfl,hi,hy,p⟩;have q:=hl i ys H hi p;by_cases hlt:i < xs.length
 ·refine .inr ⟨⟨xs,xs[i],q,by simp [hlt]⟩,by lia,λy H'=>Pv (i+1) (ys++[y]) H',λH'=>Pv (i+1) ys H',λy H' p'=>⟨xs.length - (i+1),by lia,rfl,hlt,by rw[aw,aS];lia,p'⟩,λH' p'=>⟨xs.length - (i+1),by lia,rfl,hlt,by lia,p'⟩,λx H' y=>?_⟩;obtain ⟨e,y⟩:=y;subst e;exact hs i x ys _ (y xs q) hy p
 ·have e:i=xs.length:=by lia
  subst e;exact .inl ⟨⟨xs,q,ao _⟩,by lia,hd ys H hy p⟩
theorem ie {lo:Int} (Pv:Nat->List V->Hp->Prop) (hz:n<=sizeLine) (h0:Pv 0 [] H)
  (hs:∀i ys H,i < n->ys.length<=i->Pv i ys H->mU σ₀ g tf te (.int (lo+i)) H (λy H'=>Pv (i+1) (ys++[y]) H') (λH'=>Pv (i+1) ys H'))
  (hd:∀ys H,ys.length<=n->Pv n ys H->∀p,H p=none->Q (.ref p) (upd H p (.lst ys))):oh (BC lo n) σ₀ g tf te Q H:=by
 refine ⟨λi m ys H=>m=n - i/\i<=n/\ys.length<=i/\Pv i ys H,⟨n,by simp,bo _,bo _,h0⟩,?_⟩;rintro i m ys H ⟨rfl,hi,hy,p⟩;by_cases hlt:i < n
 ·refine .inr ⟨hlt,by lia,λy H'=>Pv (i+1) (ys++[y]) H',λH'=>Pv (i+1) ys H',λy H' p'=>⟨n - (i+1),by lia,rfl,hlt,by rw[aw,aS];lia,p'⟩,λH' p'=>⟨n - (i+1),by lia,rfl,hlt,by lia,p'⟩,λx H' y=>?_⟩;obtain ⟨e,y⟩:=y;subst e y;exact hs i ys _ hlt hy p
 ·have e:i=n:=by lia
  subst e;exact .inl ⟨ao _,by lia,hd ys H hy p⟩
end
open Nm
def fe (i j:Int):Prop:=Ko i j\/∃m n,Sz m i/\Sz n j/\m+n<=1000000
def mN (i j:Int):Prop:=j≠0/\Sz 8999 j
theorem wj (h:Sz k i):Builtin.Int.intBits i<=k:=by
 unfold Builtin.Int.intBits;by_cases e:i=0
 ·subst e;simp
 ·have e':(i == 0)=false:=by simpa using e
  rw[e'];have hn:i.natAbs≠0:=by lia
  have:=(Nat.log2_lt hn).mpr h;simp only[fG,if_false]
  lia
theorem fe.ok (h:fe i j):IntMulOk i j:=by
 rcases h with h | ⟨m,n,h1,h2,h3⟩
 ·exact h.ok
 ·have e:(2:Nat)^20=1048576:=by decide
  exact .of_bits (by have:=wj h1;lia) (by have:=wj h2;lia)
section
variable {X:Cx} {a b:Expr} {ta tb:TE} {pos:Pos}
theorem cK:sT X (binaryOp .Mult) (rI fe λi j=>.int (i*j)):=LP λ_ _ _ _ _ _ _ hc q=>mul_int q hc.ok
theorem gs:sT X (binaryOp .FloorDiv) (rI mN λi j=>.int (i.fdiv j)):=LP λi j _ _ _ _ _ hc q=>by
 refine floordiv_int hc.1 q (.inl (PyProof.noPylong_of_log2 ?_));have hn:j.natAbs≠0:=by have:=hc.1;lia
 have:=(Nat.log2_lt hn).mpr hc.2
 lia
def KA (t u:TS):TS:=λD σ H=>∃N:St->Hp->Prop,t { D with nx:=N } σ H/\∀σ' H',N σ' H'->u D σ' H'
theorem fN {st:Stmt} (h1:PS X st t) (h2:Cw X rest u):Cw X (st :: rest) (KA t u):=by
 intro pins s σ H D I h;obtain ⟨N,h,k⟩:=h;refine wpAny_execs_cons (eJ (h1 pins s σ H { D with nx:=N } I h) λf s1 q=>?_);cases f with
 | next =>
  obtain ⟨σ',H',I',q⟩:=q;exact h2 pins s1 σ' H' D I' (k _ _ q)
 | ret v=>exact q
 | brk=>exact q
 | cont=>exact q
def IA (K:FG9):V->V->Hp->VK->Prop:=λo i H Q=>∃p xs k v,o=.ref p/\i=.int k/\bD K H p xs/\Cq xs k=some v/\Q v H
theorem Fs:LA X (IA X.K):=by
 intro pins s σ H o i ov iv Q I ro ri h;obtain ⟨p,xs,k,z,rfl,rfl,hq,he,q⟩:=h;cases ro;obtain ⟨t,rfl⟩:=ri;obtain ⟨its,r,pl,hz⟩:=I.list hq;obtain ⟨j,h1,h2,h3,h4,h5⟩:=Ah he;obtain ⟨w,ew,rw'⟩:=r.get h2;have hl:=r.length;have hn:=vO;have fin:EP X pins σ Q w s:=⟨z,H,I,rw',q⟩;by_cases h0:0<=k
 ·have hj:k.toNat=j:=by
   rw[seqIndex_of h0 h5] at h1;exact bQ h1
  exact wpAny_getItem_list pl.isList h0 (by lia) (by rw[hj];simpa using ew) fin
 ·have hj:(k+(its.toArray.size:Int)).toNat=j:=by
   rw[seqIndex_neg (by lia) h4] at h1;rw[aI,<- hl];exact bQ h1
  exact wpAny_getItem_list_neg pl.isList (by lia) (by rw[aI] <;> lia) (by lia) (by rw[hj];simpa using ew) fin
def DT (K:FG9) (T:String):V->Hp->VK->Prop:=λx H Q=>∃t b,sS K H x t/\PySem.W.kitOne K t (.type T)=some b/\Q (.bl b) H
theorem sF {c:Str} {T:String} {p p2:Pos} (hg:Gl X "isinstance") (hm:X.mg "isinstance"=none) (hb:bootBuiltins c=some (.type T)) (hmc:X.mg c=none) (ha:PE X a ta) (hgc:Gl X c:=by rfl) (hn:c≠"__name__":=by decide)
  (hd:(c == ("__debug__":Str))=false:=by decide) (he:starEach [a,.Name c p2] X.env=[(false,eval a X.env),(false,eval (.Name c p2) X.env)]:=by rfl)
  (hpl:(backTo pos (starEach [.Name c p2] X.env)).any (·.1)=false:=by rfl) (he2:starEach [.Name c p2] X.env=[(false,eval (.Name c p2) X.env)]:=by rfl):PE X (.Call (.Name "isinstance" p) [a,.Name c p2] [] pos) (LO (DT X.K T) ta):=by
 intro pins s σ H Q I h;refine wpAny_Call_Name_kw (ib I hg hm PyProof.Rows.boot_isinstance ?_);have hA:PA X [a,.Name c p2] (mV ta (mV (tC (.ty T)) DH)):=ae ha (ae (CY hgc hmc hb rfl hn hd) ai he2) (by rw[he,he2])
 have hq:mV ta (mV (tC (.ty T)) DH) σ H (λvs H1=>∃x,vs=[x,.ty T]/\DT X.K T x H1 Q):=by
  show ta σ H λx H1=>∃x',[x,V.ty T]=[x',V.ty T]/\DT X.K T x' H1 Q
  have e:(λx H1=>∃x',[x,V.ty T]=[x',V.ty T]/\DT X.K T x' H1 Q)=λx H1=>DT X.K T x H1 Q:=by
   funext x H1;apply propext;constructor
   ·rintro ⟨x',e,q⟩;cases e;exact q
   ·intro q;exact ⟨x,rfl,q⟩
  rw[e];exact h
 refine PyProof.Rows.callWith_builtin1 (eJ (hA pos pins s σ H _ I hq) λus s1 ⟨vs,H1,I1,r1,x,e,q1⟩=>?_) (by rw[he,he2]) hpl;subst e;obtain ⟨u,w',rfl,ru,rt⟩:=vals2 r1;cases rt;obtain ⟨t,bb,ty,ek,q⟩:=q1;exact ye I1 ru ty ek λtk=>⟨.bl bb,H1,I1.tok tk,rfl,q⟩
end
structure Kind (α:Type) [DecidableEq α] where
 R:FG9->Hp->V->α->Prop
 d:Nat
 inj:∀{X:Cx} {pins:List (Addr×Obj)} {σ:St} {H:Hp} {s:Shared} {x:V} {a b:α},Inv X pins σ H s->R X.K H x a->R X.K H x b->a=b
 rc:∀{X:Cx} {pins:List (Addr×Obj)} {σ:St} {H:Hp} {s:Shared} {x y:V} {v u:Value} {a b:α} {A:Around},Inv X pins σ H s->RelV x v->RelV y u->R X.K H x a->R X.K H y b->A.units+d < cLine->SeqAt.RcAt A s v u (decide (a=b))
 ne:∀{X:Cx} {pins:List (Addr×Obj)} {σ:St} {H:Hp} {s:Shared} {x y:V} {v u:Value} {a b:α} {A:Around},Inv X pins σ H s->RelV x v->RelV y u->R X.K H x a->R X.K H y b->A.units+d < cLine->SeqAt.RcNeAt A s v u (!decide (a=b))
 eq:∀{X:Cx} {pins:List (Addr×Obj)} {σ:St} {H:Hp} {s:Shared} {x y:V} {v u:Value} {a b:α} {A:Around},Inv X pins σ H s->RelV x v->RelV y u->R X.K H x a->R X.K H y b->A.units+d < cLine->SeqAt.EqAt A s v u (decide (a=b))
def Cf:Kind Int where
 R:=λ_ _ x i=>x=.int i
 d:=0
 inj:=λ_ h1 h2=>by rw[h1] at h2;cases h2;rfl
 rc:=λ{X pins σ H s x y v u a b A} I rx ry h1 h2 _=>by
  subst h1 h2;obtain ⟨t,rfl⟩:=rx;obtain ⟨t',rfl⟩:=ry;have q:=SeqAt.RcAt.int_int (A:=A) (s:=s) a t b t';rwa [xg] at q
 ne:=λ{X pins σ H s x y v u a b A} I rx ry h1 h2 _=>by
  subst h1 h2;obtain ⟨t,rfl⟩:=rx;obtain ⟨t',rfl⟩:=ry;have q:=SeqAt.RcNeAt.int_int (A:=A) (s:=s) a t b t';rwa [xg] at q
 eq:=λ{X pins σ H s x y v u a b A} I rx ry h1 h2 _=>by
  subst h1 h2;obtain ⟨t,rfl⟩:=rx;obtain ⟨t',rfl⟩:=ry;have q:=SeqAt.EqAt.int_int (A:=A) (s:=s) a t b t';rwa [xg] at q
theorem gX {α β:Type} {F:α->β->Prop}:∀{l1:List α} {l2:List β} {i:Nat} (_:Paired F l1 l2) (h1:i < l1.length) (h2:i < l2.length),F l1[i] l2[i]
 | _,_,_,.nil,h1,_=>absurd h1 (eN _)
 | _,_,0,.cons r _,_,_=>r
 | _,_,i+1,.cons _ t,h1,h2=>gX (i:=i) t (Nat.lt_of_succ_lt_succ h1) (Nat.lt_of_succ_lt_succ h2)
theorem ju {α β:Type} {F:α->β->Prop} (hF:∀a b x,F a x->F b x->a=b):∀{l1 l2:List α} {l:List β},Paired F l1 l->Paired F l2 l->l1=l2
 | _,_,_,.nil,.nil=>rfl
 | _,_,_,.cons r t,.cons r' t'=>by rw[hF _ _ _ r r',ju hF t t']
theorem qP {α:Type} [DecidableEq α] (as bs:List α) (h:as.length=bs.length):(List.range as.length).all (λj=>decide (as[j]?=bs[j]?))=decide (as=bs):=by
 rw[je,kT,decide_eq_true_iff];constructor
 ·intro q;apply DC;intro i;by_cases hi:i < as.length
  ·exact of_decide_eq_true (q i (pB.mpr hi))
  ·rw[be (by lia),be (by lia)]
 ·rintro rfl i _;simp
section
variable {α:Type} [DecidableEq α] (k:Kind α)
theorem Kind.items {X:Cx} {pins:List (Addr×Obj)} {σ:St} {H:Hp} {s:Shared} {A:Around} (I:Inv X pins σ H s) (hA:A.units+k.d < cLine) {xs ys:List V} {us ws:List Value} {as bs:List α}
  (rx:cf xs us) (ry:cf ys ws) (ha:Paired (λa x=>k.R X.K H x a) as xs) (hb:Paired (λa x=>k.R X.K H x a) bs ys) :
  ∀j (h1:j < us.toArray.size) (h2:j < ws.toArray.size),SeqAt.EqAt A s us.toArray[j] ws.toArray[j] (decide (as[j]?=bs[j]?)):=λj h1 h2=>by
 have l1:j < us.length:=by simpa using h1
 have l2:j < ws.length:=by simpa using h2
 have e1:=rx.length;have e2:=ry.length;have e3:=ha.length;have e4:=hb.length;obtain ⟨u,hu,ru⟩:=rx.get (i:=j) (x:=xs[j]'(by lia)) (by simp);obtain ⟨w,hw,rw'⟩:=ry.get (i:=j) (x:=ys[j]'(by lia)) (by simp);have q:=k.eq (A:=A) I ru rw' (gX ha (by lia) (by lia)) (gX hb (by lia) (by lia)) hA
 have eu:us.toArray[j]=u:=by
  have:=hu;rw[af l1] at this;simpa using this
 have ew:ws.toArray[j]=w:=by
  have:=hw;rw[af l2] at this;simpa using this
 rw[eu,ew,af (show j < as.length by lia),af (show j < bs.length by lia)];have e5:decide (some as[j]=some bs[j])=decide (as[j]=bs[j]):=by simp
 rw[e5];exact q
theorem yW {α:Type} [DecidableEq α] (as bs:List α) {n m:Nat} (h1:as.length=n) (h2:bs.length=m):((List.range (min n m)).all (λj=>decide (as[j]?=bs[j]?)) && n == m)=decide (as=bs):=by
 subst h1 h2;by_cases e:as.length=bs.length
 ·rw[show min as.length bs.length=as.length by lia,qP as bs e];simp [e]
 ·have h1:(as.length == bs.length)=false:=by simpa using e
  rw[h1,Bool.and_false];exact (decide_eq_false λz=>e (by rw[z])).symm
def L9:Kind (List α) where
 R:=λK H x as=>∃p xs,x=.ref p/\jG K H p xs/\Paired (λa x=>k.R K H x a) as xs
 d:=k.d+1
 inj:=λ{X pins σ H s x a b} I h1 h2=>by
  obtain ⟨p,xs,rfl,hp,pa⟩:=h1;obtain ⟨q,ys,e,hq,pb⟩:=h2;cases e;have e:=I.tuple_inj hp hq;subst e;exact ju (F:=λa x=>k.R X.K H x a) (λa b x=>k.inj I) pa pb
 rc:=λ{X pins σ H s x y v u a b A} I rx ry h1 h2 hA=>by
  obtain ⟨p,xs,rfl,hp,pa⟩:=h1;obtain ⟨q,ys,rfl,hq,pb⟩:=h2;cases rx;cases ry;obtain ⟨us,r1,t1,_⟩:=I.tuple hp;obtain ⟨ws,r2,t2,_⟩:=I.tuple hq;have z:=SeqAt.RcAt.tuples (A:=A) (e:=λj=>decide (a[j]?=b[j]?)) (show s.heap.IsTuple p us.toArray from t1) (show s.heap.IsTuple q ws.toArray from t2) (by lia) (k.items (A:=A.in1) I (by show A.units+1+k.d < cLine;lia) r1 r2 pa pb);rwa [yW a b (by rw[pa.length,r1.length];simp) (by rw[pb.length,r2.length];simp)] at z
 ne:=λ{X pins σ H s x y v u a b A} I rx ry h1 h2 hA=>by
  obtain ⟨p,xs,rfl,hp,pa⟩:=h1;obtain ⟨q,ys,rfl,hq,pb⟩:=h2;cases rx;cases ry;obtain ⟨us,r1,t1,_⟩:=I.tuple hp;obtain ⟨ws,r2,t2,_⟩:=I.tuple hq;have z:=SeqAt.RcNeAt.tuples (A:=A) (e:=λj=>decide (a[j]?=b[j]?)) (show s.heap.IsTuple p us.toArray from t1) (show s.heap.IsTuple q ws.toArray from t2) (by lia) (k.items (A:=A.in1) I (by show A.units+1+k.d < cLine;lia) r1 r2 pa pb);rwa [yW a b (by rw[pa.length,r1.length];simp) (by rw[pb.length,r2.length];simp)] at z
 eq:=λ{X pins σ H s x y v u a b A} I rx ry h1 h2 hA=>by
  obtain ⟨p,xs,rfl,hp,pa⟩:=h1;obtain ⟨q,ys,rfl,hq,pb⟩:=h2;cases rx;cases ry;by_cases e:p=q
  ·subst e;have e:=I.tuple_inj hp hq;subst e;rw[ju (F:=λa x=>k.R X.K H x a) (λa b x=>k.inj I) pa pb,decide_eq_true rfl];exact SeqAt.EqAt.same _
  ·obtain ⟨us,r1,t1,_⟩:=I.tuple hp;obtain ⟨ws,r2,t2,_⟩:=I.tuple hq;have z:=SeqAt.RcAt.tuples (A:=A) (e:=λj=>decide (a[j]?=b[j]?)) (show s.heap.IsTuple p us.toArray from t1) (show s.heap.IsTuple q ws.toArray from t2) (by lia) (k.items (A:=A.in1) I (by show A.units+1+k.d < cLine;lia) r1 r2 pa pb);rw[yW a b (by rw[pa.length,r1.length];simp) (by rw[pb.length,r2.length];simp)] at z;exact .of_refs e z
theorem Ce {X:Cx} {pins:List (Addr×Obj)} {σ:St} {H:Hp} {s:Shared} {p q:Addr} {xs ys:List V} {a b:List α} {A:Around} (I:Inv X pins σ H s) (hp:bD X.K H p xs) (hq:bD X.K H q ys)
  (pa:Paired (λa x=>k.R X.K H x a) a xs) (pb:Paired (λa x=>k.R X.K H x a) b ys) (hA:A.units+(k.d+1) < cLine) :
  SeqAt.RcAt A s (.ref p) (.ref q) (decide (a=b))/\SeqAt.RcNeAt A s (.ref p) (.ref q) (!decide (a=b)):=by
 obtain ⟨us,r1,t1,_⟩:=I.list hp;obtain ⟨ws,r2,t2,_⟩:=I.list hq;have l1:=r1.length;have l2:=r2.length;have l3:=pa.length;have l4:=pb.length;by_cases e:us.length=ws.length
 ·have it:=k.items (A:=A.in1) I (by show A.units+1+k.d < cLine;lia) r1 r2 pa pb;have z:=SeqAt.RcAt.lists (A:=A) (e:=λj=>decide (a[j]?=b[j]?)) t1.isList t2.isList (by simpa using e) (by lia) it;have z2:=SeqAt.RcNeAt.lists (A:=A) (e:=λj=>decide (a[j]?=b[j]?)) t1.isList t2.isList (by simpa using e) (by lia) it;have e1:us.toArray.size=a.length:=by rw[aI];lia
  rw[e1,qP a b (by lia)] at z z2;exact ⟨z,z2⟩
 ·have hne:¬a=b:=λz=>e (by have:=congrArg List.length z;lia)
  rw[decide_eq_false hne];exact ⟨SeqAt.RcAt.lists_lengths t1.isList t2.isList (by simpa using e) (by lia),SeqAt.RcNeAt.lists_lengths t1.isList t2.isList (by simpa using e) (by lia)⟩
def Fh:Kind (List α) where
 R:=λK H x as=>∃p xs,x=.ref p/\bD K H p xs/\Paired (λa x=>k.R K H x a) as xs
 d:=k.d+1
 inj:=λ{X pins σ H s x a b} I h1 h2=>by
  obtain ⟨p,xs,rfl,hp,pa⟩:=h1;obtain ⟨q,ys,e,hq,pb⟩:=h2;cases e;have e:=I.list_inj hp hq;subst e;exact ju (F:=λa x=>k.R X.K H x a) (λa b x=>k.inj I) pa pb
 rc:=λ{X pins σ H s x y v u a b A} I rx ry h1 h2 hA=>by
  obtain ⟨p,xs,rfl,hp,pa⟩:=h1;obtain ⟨q,ys,rfl,hq,pb⟩:=h2;cases rx;cases ry;exact (Ce k I hp hq pa pb hA).1
 ne:=λ{X pins σ H s x y v u a b A} I rx ry h1 h2 hA=>by
  obtain ⟨p,xs,rfl,hp,pa⟩:=h1;obtain ⟨q,ys,rfl,hq,pb⟩:=h2;cases rx;cases ry;exact (Ce k I hp hq pa pb hA).2
 eq:=λ{X pins σ H s x y v u a b A} I rx ry h1 h2 hA=>by
  obtain ⟨p,xs,rfl,hp,pa⟩:=h1;obtain ⟨q,ys,rfl,hq,pb⟩:=h2;cases rx;cases ry;by_cases e:p=q
  ·subst e;have e:=I.list_inj hp hq;subst e;rw[ju (F:=λa x=>k.R X.K H x a) (λa b x=>k.inj I) pa pb,decide_eq_true rfl];exact SeqAt.EqAt.same _
  ·exact .of_refs e (Ce k I hp hq pa pb hA).1
def Kind.via {β:Type} [DecidableEq β] (f:β->α) (fi:∀a b,f a=f b->a=b) (R':FG9->Hp->V->β->Prop) (im:∀{K H x b},R' K H x b->k.R K H x (f b)):Kind β where
 R:=R'
 d:=k.d
 inj:=λI h1 h2=>fi _ _ (k.inj I (im h1) (im h2))
 rc:=λ{X pins σ H s x y v u a b A} I rx ry h1 h2 hA=>by
  have z:=k.rc (A:=A) I rx ry (im h1) (im h2) hA;rwa [decide_eq_decide.mpr (show f a=f b↔a=b from ⟨fi a b,λe=>by rw[e]⟩)] at z
 ne:=λ{X pins σ H s x y v u a b A} I rx ry h1 h2 hA=>by
  have z:=k.ne (A:=A) I rx ry (im h1) (im h2) hA;rwa [decide_eq_decide.mpr (show f a=f b↔a=b from ⟨fi a b,λe=>by rw[e]⟩)] at z
 eq:=λ{X pins σ H s x y v u a b A} I rx ry h1 h2 hA=>by
  have z:=k.eq (A:=A) I rx ry (im h1) (im h2) hA;rwa [decide_eq_decide.mpr (show f a=f b↔a=b from ⟨fi a b,λe=>by rw[e]⟩)] at z
end
def Bw (K:FG9) (H:Hp) (x:V) (n:Int×Int):Prop:=∃p,x=.ref p/\jG K H p [.int n.1,.int n.2]
def Lk:Kind (Int×Int):=(L9 Cf).via (λn=>[n.1,n.2]) (λa b e=>by cases a;cases b;simp at e;rw[e.1,e.2]) Bw λ⟨p,e,h⟩=>⟨p,_,e,h,.cons rfl (.cons rfl .nil)⟩
def L7 (K:FG9):R2:=λx y H Q=>∃(α:Type) (_:DecidableEq α) (k:Kind α) (a b:α),k.d<=50/\k.R K H x a/\k.R K H y b/\Q (.bl (decide (a=b))) H
def Lb (K:FG9):R2:=λx y H Q=>∃(α:Type) (_:DecidableEq α) (k:Kind α) (a b:α),k.d<=50/\k.R K H x a/\k.R K H y b/\Q (.bl (!decide (a=b))) H
theorem EX (hu:X.A.units+50 < cLine):sT X (compareOp .Eq) (L7 X.K):=by
 intro pins s σ H x y v u Q I rx ry h;obtain ⟨α,_,k,a,b,hd,ha,hb,q⟩:=h;exact k.rc (A:=X.A) I rx ry ha hb (by lia) _ _ _ _ ⟨.bl (decide (a=b)),H,I,rfl,q⟩
theorem pU (hu:X.A.units+50 < cLine):sT X (compareOp .NotEq) (Lb X.K):=by
 intro pins s σ H x y v u Q I rx ry h;obtain ⟨α,_,k,a,b,hd,ha,hb,q⟩:=h;exact k.ne (A:=X.A) I rx ry ha hb (by lia) _ _ _ _ ⟨.bl (!decide (a=b)),H,I,rfl,q⟩
theorem vR (hr:ja k A):A.units+50 < cLine:=by have:=hr.units;lia
def Inner (H:Hp) (p q:Addr):Prop:=∃a b c:Int,H p=some (.lst [.int a,.int b,.int c,.ref q])
def cF (p:Addr) (H H':Hp):Prop:=(∀b o,H b=some o->b≠p->H' b=some o)/\∀q,Inner H p q->Inner H' p q
theorem cF.refl (H:Hp):cF p H H:=⟨λ_ _ h _=>h,λ_ h=>h⟩
theorem cF.trans (a:cF p H H1) (b:cF p H1 H2):cF p H H2:=⟨λc o h n=>b.1 c o (a.1 c o h n) n,λq h=>b.2 q (a.2 q h)⟩
theorem Inner.inj (h:Inner H p q) (h':Inner H p q'):q=q':=by
 obtain ⟨a,b,c,e⟩:=h;obtain ⟨a',b',c',e'⟩:=h';rw[e] at e';have:=HO.lst.inj (bQ e');simp at this;exact this.2.2.2
theorem cF.set (h:H p=some (.lst [.int a,.int b,.int c,.ref q])):cF p H (upd H p (.lst [.int a',.int b',.int c',.ref q])) :=
 ⟨λb u h n=>by rw[a7 n];exact h,λq' h'=>by
  rw[(Inner.inj ⟨a,b,c,h⟩ h').symm];exact ⟨a',b',c',aH⟩⟩
theorem aF.upto (h:aF H H'):cF p H H':=⟨λb o e _=>h b o e,λq ⟨a,b,c,e⟩=>⟨a,b,c,h _ _ e⟩⟩
theorem aF.new (h:H p=Option.none):aF H (upd H p o):=λb u e=>by rw[a7 (dS e h)];exact e
theorem aF.sqt {K:FG9} (e:aF H H') (h:jG K H a xs):jG K H' a xs:=by
 rcases h with (h | ⟨o,h⟩) | h
 ·exact .inl (.inl (e _ _ h))
 ·exact .inl (.inr ⟨o,e _ _ h⟩)
 ·exact .inr h
theorem aF.num {K:FG9} (e:aF H H') (h:Bw K H x n):Bw K H' x n:=by obtain ⟨p,q,r⟩:=h;exact ⟨p,q,e.sqt r⟩
section
variable {σ:St} {H:Hp} {D:Ends}
theorem aN {t:TS} (e:σ0=σ) (h:t D σ H):t D σ0 H:=by rw[e];exact h
theorem Jp (h:t { D with nx:=u D } σ H):KC t u D σ H:=h
theorem GK (h:D.nx σ H):Io D σ H:=h
theorem JC {g:TG} (h:te σ H λx H1=>g x σ H1 D.nx):F9 te g D σ H:=h
theorem ER (h:Q (σ.set i (some v)) H):De i v σ H Q:=h
theorem Jq (h:te σ H D.rt):KD te D σ H:=h
theorem Jx (h:c σ H λb H1=>if b=true then t D σ H1 else u D σ H1):KJ c t u D σ H:=h
theorem GW (h:te σ H λ_ H1=>D.nx σ H1):Iq te D σ H:=h
theorem Jr (h:ta σ H λvs H1=>∃v w,vs=[v,w]/\D.nx ((σ.set i (some v)).set j (some w)) H1):KE i j ta D σ H:=h
theorem G7 
  (h:to σ H λo H1=>ti σ H1 λi H2=>tget o i H2 λx H3=>te σ H3 λy H4=>tip x y H4 λz H5=>tset o i z H5 λH6=>D.nx σ H6):Ir to ti te tget tip tset D σ H:=h
theorem Jw (h:Q (.int (f i j)) H):ipI f (.int i) (.int j) H Q:=⟨i,j,rfl,rfl,h⟩
theorem Jz {g:TG} (h:wi σ H λJ H1=>∃W:Nat->Nat->St->Hp->Prop,(∃m,W 0 m σ H1)/\∀i m σ H,W i m σ H →
  (J.stop i H/\D.nx σ H)\/(J.go i H/\∃N:St->Hp->Prop,(∀σ' H',N σ' H'->∃m',m' < m/\W (i+1) m' σ' H')/\∀x H',J.yld i H x H'->g x σ H' λσ2 H2=>tb { D with nx:=N,ct:=N,bk:=D.nx } σ2 H2)):KL wi g tb D σ H:=h
variable {Q:VK} {QA:List V->Hp->Prop} {QB:Bool->Hp->Prop}
theorem Jn (e:σ[i]?=some (some v)) (h:Q v H):Je i σ H Q:=⟨v,e,h⟩
theorem L5 (h:Q v H):tC v σ H Q:=h
theorem K6 (h:ta σ H λx H1=>tb σ H1 λy H2=>r x y H2 Q):KG r ta tb σ H Q:=h
theorem K2 (h:ta σ H λx H1=>r x H1 Q):LO r ta σ H Q:=h
theorem K9 {g:Int->Int->V} (h:Q (g i j) H):Ht g (.int i) (.int j) H Q:=⟨i,j,rfl,rfl,h⟩
theorem eK {g:Int->Int->V} (hc:C i j) (h:Q (g i j) H):rI C g (.int i) (.int j) H Q:=⟨i,j,rfl,rfl,hc,h⟩
theorem L6 {g:Int->V} (h:Q (g i) H):rU g (.int i) H Q:=⟨i,rfl,h⟩
theorem JB (h:Q (.bl (decide (i=j))) H):rEq (.int i) (.int j) H Q:=⟨rfl,by
 have e:decide (V.int i=V.int j)=decide (i=j):=by simp
 rw[e];exact h⟩
theorem Ju (h:Q (.bl (!decide (i=j))) H):rNe (.int i) (.int j) H Q:=⟨rfl,by
 have e:decide (V.int i=V.int j)=decide (i=j):=by simp
 rw[e];exact h⟩
theorem GD (h:t σ H λx H'=>∃k,x=.bl k/\QB k H'):Ik t σ H QB:=h
theorem K3 (h:t σ H λx H'=>∃k,x=.bl k/\QB k H'):tB t σ H QB:=h
theorem JD (h:t σ H λc H1=>if c=true then u σ H1 QB else QB false H1):KN t u σ H QB:=h
theorem K5 (h:t σ H λc H1=>if c=true then QB true H1 else u σ H1 QB):tOr t u σ H QB:=h
theorem Js (h:t σ H λc H1=>QB (!c) H1):KH t σ H QB:=h
theorem G9 (h:t σ H λx H1=>∃c,x=.bl c/\if c=true then u σ H1 Q else Q (.bl false) H1):Iu t u σ H Q:=h
theorem GI (h:t σ H λx H1=>∃c,x=.bl c/\Q (.bl (!c)) H1):Im t σ H Q:=h
theorem Jy (h:c σ H λb H1=>if b=true then ta σ H1 Q else tb σ H1 Q):tIf c ta tb σ H Q:=h
theorem Jm (h:QB true H):Ky σ H QB:=h
theorem Jt (h:QA [] H):DH σ H QA:=h
theorem GX (h:ta σ H λx H1=>tr σ H1 λxs H2=>QA (x :: xs) H2):mV ta tr σ H QA:=h
theorem GZ (h:t σ H λvs H1=>sp vs H1 Q E):Ey sp [] E t σ H Q:=by
 have e:(λvs H1=>sp (vs++[]) H1 Q E)=λvs H1=>sp vs H1 Q E:=by funext vs H1;rw[w5]
 show t σ H λvs H1=>sp (vs++[]) H1 Q E
 rw[e];exact h
theorem K7 (h:t σ H λvs H1=>r vs H1 Q):LZ r t σ H Q:=h
theorem BR {K:FG9} (hx:jG K H p xs) (e:Cq xs i=some v) (h:Q v H):JG K (.ref p) (.int i) H Q:=⟨p,xs,i,v,rfl,rfl,hx,e,h⟩
theorem cg {K:FG9} (hx:bD K H p xs) (e:Cq xs i=some v) (h:Q v H):JH K (.ref p) (.int i) H Q:=⟨p,xs,i,v,rfl,rfl,hx,e,h⟩
theorem GV {K:FG9} (hx:bD K H p xs) (e:Cq xs i=some v) (h:Q v H):IA K (.ref p) (.int i) H Q:=⟨p,xs,i,v,rfl,rfl,hx,e,h⟩
theorem dY (hx:H p=some (.lst xs)) (e:Ej xs.length i=some j) (ey:xs.set j v=ys) (h:QH (upd H p (.lst ys))):Iz (.ref p) (.int i) v H QH:=⟨p,xs,i,j,rfl,rfl,hx,e,by rw[ey];exact h⟩
theorem GS (h:to σ H λo H1=>ti σ H1 λi H2=>t o i v H2 λH3=>QS σ H3):Lq to ti t v σ H QS:=h
theorem ES (h:t v σ H λσ' H'=>u r σ' H' QS):IL t u (v :: r) σ H QS:=⟨v,r,rfl,h⟩
theorem GU (h:QS σ H):Lr [] σ H QS:=⟨rfl,h⟩
theorem GR {K:FG9} (hx:jG K H a xs) (hl:xs.length=n) (h:t xs σ H QS):Kc K n t (.ref a) σ H QS:=⟨a,xs,rfl,hx,hl,h⟩
theorem K4 (h:te σ H λx H1=>tl σ H1 λl H2=>th σ H2 λu H3=>r x l u H3 Q):tSl r te tl th σ H Q:=h
theorem DS (h:QO none H):CD σ H QO:=h
theorem GH (h:t σ H λx H1=>∃i,x=.int i/\QO (some i) H1):Il t σ H QO:=h
variable {R:It->Hp->Prop} {K:FG9}
theorem EN (h:tl σ H λx H1=>∃a,x=.ref a/\(∃xs,bD K H1 a xs)/\R (Ie K a) H1):Fo K tl σ H R:=h
theorem GQ (h:tl σ H λx H1=>∃a,x=.ref a/\(∃xs,jG K H1 a xs)/\R (Ks K a) H1):Lp K tl σ H R:=h
theorem EM (h:ta σ H λvs H1=>∃j:Int,vs=[.int j]/\-(2^62)<=j/\j < 2^62/\R (BC 0 j.toNat) H1):IH ta σ H R:=h
theorem EL (h:ta σ H λvs H1=>∃i j:Int,vs=[.int i,.int j]/\(-(2^62)<=i/\i < 2^62/\-(2^62)<=j/\j < 2^62)/\R (BC i (j - i).toNat) H1):IG ta σ H R:=h
theorem GY {g:TG} (e:Ei k cap σ=σ₀) (h:wi σ H λJ H1=>oh J σ₀ g tf te Q H1):AA wi k cap g tf te σ H Q:=by
 unfold AA;rw[e];exact h
theorem GC {g:TG} {NY:V->Hp->Prop} (h:g x σ H λσ2 H2=>tf σ2 H2 λb H3=>if b=true then te σ2 H3 NY else NN H3):mU σ g tf te x H NY NN:=h
theorem K8 (h:to σ H λx H1=>LY K T x H1/\t σ H1 λxs H2=>r x xs H2 Q):L4 K T r to t σ H Q:=h
def LB (Q:VK) (xs:List V) (H:Hp):Prop:=xs.length<=sizeLine/\∀p,H p=none->Q (.ref p) (upd H p (.tup xs))
def LC (Q:VK) (xs:List V) (H:Hp):Prop:=xs.length<=sizeLine/\∀p,H p=none->Q (.ref p) (upd H p (.lst xs))
theorem Jo (h:t σ H (LB Q)):Kz t σ H Q:=h
theorem Jv (h:t σ H (LC Q)):KI t σ H Q:=h
theorem fW (h:Nat.ble n 1000=true):n<=sizeLine:=aL (bc (Nat.le_of_ble_eq_true h))
theorem bN {xs:List V} (h:∀p H',aF H H'->H' p=some (.tup xs)->Q (.ref p) H') (hl:Nat.ble xs.length 1000=true:=by rfl):LB Q xs H :=
 ⟨fW hl,λp hp=>h p _ (aF.new hp) aH⟩
theorem dd {xs:List V} (h:∀p H',aF H H'->H p=none->H' p=some (.lst xs)->Q (.ref p) H') (hl:Nat.ble xs.length 1000=true:=by rfl):LC Q xs H :=
 ⟨fW hl,λp hp=>h p _ (aF.new hp) hp aH⟩
theorem Ln {A B:Prop} (h:B):if (!true)=true then A else B:=Fj h
theorem Lo {A B:Prop} (h:A):if (!false)=true then A else B:=Lm h
def WB (tb:TS) (D:Ends) (Pv:St->Hp->Prop) (μ:St->Hp->Nat) (n:Nat) (σ:St) (H:Hp):Prop:=∃N:St->Hp->Prop,(∀σ' H',N σ' H'->∃m',m' < n/\(m'=μ σ' H'/\Pv σ' H'))/\tb { D with nx:=N,ct:=N,bk:=D.nx } σ H
theorem Iy (h:tb { D with nx:=λσ' H'=>Pv σ' H'/\μ σ' H' < n,ct:=λσ' H'=>Pv σ' H'/\μ σ' H' < n,bk:=D.nx } σ H):WB tb D Pv μ n σ H :=
 ⟨_,λσ' H' ⟨p,l⟩=>⟨_,l,rfl,p⟩,h⟩
theorem yU (Pv:St->Hp->Prop) (μ:St->Hp->Nat) (h0:Pv σ H) (hs:∀σ H,Pv σ H->c σ H λb H1=>if b=true then WB tb D Pv μ (μ σ H) σ H1 else D.nx σ H1):Ex c tb D σ H:=by
 refine ⟨λm σ H=>m=μ σ H/\Pv σ H,⟨_,rfl,h0⟩,?_⟩;rintro m σ H ⟨rfl,p⟩;exact hs σ H p
end
def fR (H:Hp) (p:Addr):Prop:=∃(q:Addr) (a b c:Int) (cs:List Int),H p=some (.lst [.int a,.int b,.int c,.ref q])/\H q=some (.lst (cs.map V.int))/\0<=a/\0<=c/\c<=(cs.length:Int)/\∀x∈cs,(0:Int)<=x
theorem Eg {H:Hp} {cs:List Int} (hp:H p=some (.lst [.int a,.int b,.int c,.ref q])) (hq:H q=some (.lst (cs.map V.int))):q≠p:=λe=>by
 rw[e,hp] at hq;have h:=HO.lst.inj (bQ hq);cases cs with
 | nil=>cases h
 | cons x1 cs=>cases cs with
  | nil=>cases h
  | cons x2 cs=>cases cs with
   | nil=>cases h
   | cons x3 cs=>cases cs with
    | nil=>cases h
    | cons x4 cs=>simp at h
theorem fR.same (h:fR H p) (e:aF H H'):fR H' p:=by obtain ⟨q,a,b,c,cs,h1,h2,r⟩:=h;exact ⟨q,a,b,c,cs,e _ _ h1,e _ _ h2,r⟩
theorem cF.tup {H H':Hp} {p r:Addr} {xs:List V} (u:cF p H H') (B:fR H p) (h:H r=some (.tup xs)):H' r=some (.tup xs):=by
 obtain ⟨q,a,b,c,cs,h1,_⟩:=B;exact u.1 r _ h λe=>by rw[e,h1] at h;cases h
theorem cF.other (u:cF p H H') (n:r≠p) (h:H r=some o):H' r=some o:=u.1 r _ h n
theorem fR.inner (h:fR H p):∃q,Inner H p q/\∃xs,H q=some (.lst xs):=by obtain ⟨q,a,b,c,cs,h1,h2,_⟩:=h;exact ⟨q,⟨a,b,c,h1⟩,_,h2⟩
theorem fR.upd (h:fR H p) (hi:Inner H p q) (n1:r≠p) (n2:r≠q):fR (L2.upd H r o) p:=by
 obtain ⟨q',a,b,c,cs,h1,h2,z⟩:=h;have e:q'=q:=Inner.inj ⟨a,b,c,h1⟩ hi;subst e;exact ⟨q',a,b,c,cs,by rw[a7 n1.symm];exact h1,by rw[a7 n2.symm];exact h2,z⟩
theorem Inner.upd (hi:Inner H p q) (n1:r≠p):Inner (L2.upd H r o) p q:=by obtain ⟨a,b,c,h⟩:=hi;exact ⟨a,b,c,by rw[a7 n1.symm];exact h⟩
def Gv:Sp:=λvs H Q _=>∃p n,vs=[.ref p,.int n]/\fR H p/\0 < n/\n < 2^64/\∀v H',0<=v->v < n->fR H' p->cF p H H'->Q (.int v) H'
inductive EG (K:FG9) (vs:List V) (H:Hp) (Q:VK) (E9:XK):Prop
 | mk (a:Addr) (ns:List Int):vs=[.ref a]->bD K H a (ns.map V.int)->ns.length<=63->(∀p H',H p=none->fR H' p->aF H H'->Q (.ref p) H')->EG K vs H Q E9
inductive uR (K:FG9) (vs:List V) (H:Hp) (Q:VK) (E9:XK):Prop
 | mk (a:Addr) (ns:List Int):vs=[.ref a]->bD K H a (ns.map V.int)->ns.length<=63->(∀H',Q (.bl true) H')->uR K vs H Q E9
def Jj:Sp:=λvs H Q _=>∃t b,vs=[.int t,.int b]/\0 < b/\Sz 8999 b/\∀r H',aF H H'->H' r=some (.tup [.int (lo t b),.int (hi t b)])->Q (.ref r) H'
def KS:Sp:=λvs H Q _=>∃a b,vs=[.int a,.int b]/\Q (.int (g a b)) H
def DM:Sp:=λvs H Q _=>∃t b,vs=[.int t,.int b]/\b≠0/\Sz 8999 b/\∀r H',aF H H'->H' r=some (.tup [.int (lo (if b < 0 then -t else t) (if b < 0 then -b else b)),.int (hi (if b < 0 then -t else t) (if b < 0 then -b else b))])->Q (.ref r) H'
def IM (a b c d:Int):Int:=a*d+c*b
def FF (a b c d:Int):Int:=a*d - c*b
def FE (a _b c _d:Int):Int:=a*c
def CQ (K:FG9) (f:Int->Int->Int->Int->Int):Sp:=λvs H Q _=>∃p q a b c d,vs=[.ref p,.ref q]/\jG K H p [.int a,.int b]/\jG K H q [.int c,.int d]/\0 < b/\0 < d/\Sz 4000 a/\Sz 4000 b/\Sz 4000 c/\Sz 4000 d /\
 ∀r H',aF H H'->H' r=some (.tup [.int (lo (f a b c d) (b*d)),.int (hi (f a b c d) (b*d))])->Q (.ref r) H'
def Gy (K:FG9):Sp:=λvs H Q _=>∃p q a b c d,vs=[.ref p,.ref q]/\jG K H p [.int a,.int b]/\jG K H q [.int c,.int d]/\0 < b/\0 < d/\c≠0/\Sz 4000 a/\Sz 4000 b/\Sz 4000 c/\Sz 4000 d /\
 ∀r H',aF H H'->H' r=some (.tup [.int (lo (if c < 0 then 0 - a*d else a*d) (if c < 0 then 0 - b*c else b*c)),.int (hi (if c < 0 then 0 - a*d else a*d) (if c < 0 then 0 - b*c else b*c))])->Q (.ref r) H'
theorem bP {α β:Type} {F:α->β->Prop}:∀{l1 l1':List α} {l2 l2':List β},Paired F l1 l2->Paired F l1' l2'->Paired F (l1++l1') (l2++l2')
 | _,_,_,_,.nil,h=>h
 | _,_,_,_,.cons r t,h=>.cons r (bP t h)
theorem cH {h:Heap} (ha:h.get? a=some o) (hb:h.get? b=some u) (hc:o.cls≠u.cls):a≠b:=λe=>by
 subst e;rw[ha] at hb;cases hb;exact hc rfl
theorem ji (h:a≠b):Value.type a≠Value.type b:=λe=>h (by injection e)
theorem xB {z TI TO i1 i2 l1 l2:Addr} (hz:IsZip h z TI TO f0) (hTI:IsPair h TI (.ref i1) (.ref i2)) (hTO:IsPair h TO a b)
  (h1:h.IsListIter i1 l1 k1) (h2:h.IsListIter i2 l2 k2) (hl1:h.IsList l1 xs) (hl2:h.IsList l2 ys) (hT:TI≠TO) (hi:i1≠i2):ZipApart z TI TO i1 i2 l1 l2:=by
 obtain ⟨o1,g1,c1,_⟩:=h1;obtain ⟨o2,g2,c2,_⟩:=h2;obtain ⟨p1,q1,d1,_⟩:=hl1;obtain ⟨p2,q2,d2,_⟩:=hl2;refine ⟨cH hTI hz ?_,cH hTO hz ?_,cH g1 hz ?_,cH g2 hz ?_,hT,cH hTI g1 ?_,cH hTI g2 ?_,cH hTO g1 ?_,cH hTO g2 ?_,hi,cH q1 hz ?_,cH q1 hTO ?_,cH q1 g1 ?_,cH q1 g2 ?_,cH q2 hz ?_,cH q2 hTO ?_,cH q2 g1 ?_,cH q2 g2 ?_⟩
 all_goals first
  | (rw[d1];first | (rw[c1];exact ji (by decide)) | (rw[c2];exact ji (by decide)) | exact ji (by decide))
  | (rw[d2];first | (rw[c1];exact ji (by decide)) | (rw[c2];exact ji (by decide)) | exact ji (by decide))
  | (rw[c1];exact ji (by decide))
  | (rw[c2];exact ji (by decide))
  | exact ji (by decide)
def LW (K : FG9) (l1 l2 : Addr) : It :=
  ⟨λi H => ∃ xs ys x y, bD K H l1 xs /\ bD K H l2 ys /\ xs[i]? = some x /\ ys[i]? = some y,
   λi H v H' => ∃ p x y, v = .ref p /\ H p = none /\ H' = upd H p (.tup [x, y]) /\ (∀ xs, bD K H l1 xs → xs[i]? = some x) /\ ∀ ys, bD K H l2 ys → ys[i]? = some y,
   λi H => ∃ xs ys, bD K H l1 xs /\ bD K H l2 ys /\ (xs.length ≤ i \/ ys.length ≤ i)⟩
def tnZ (z TI TO i1 i2 l1 l2:Addr) (i:Nat) (h:Heap):Prop:=IsZip h z TI TO .none/\IsPair h TI (.ref i1) (.ref i2)/\(∃a b,IsPair h TO a b)/\h.IsListIter i1 l1 i/\h.IsListIter i2 l2 i
theorem Ew {P:Program} {w:World} {K:FG9} {elts:List Expr} {kk:Nat} {tpos:Pos} (z TI TO i1 i2 l1 l2:Addr) (hT:TI≠TO) (hi:i1≠i2):Turn P w K (.Tuple elts kk tpos) (LW K l1 l2) [z,TI,TO,i1,i2] z (tnZ z TI TO i1 i2 l1 l2) where
 mem:=by simp
 obj:=λi h st b hb=>by
  obtain ⟨hz,hTI,⟨a,c,hTO⟩,⟨o1,g1,c1,d1⟩,⟨o2,g2,c2,d2⟩⟩:=st;simp only[aE,aO,or_false] at hb;rcases hb with rfl | rfl | rfl | rfl | rfl
  ·exact ⟨_,hz,λv q=>nomatch q⟩
  ·exact ⟨_,hTI,λv q=>nomatch q⟩
  ·exact ⟨_,hTO,λv q=>nomatch q⟩
  ·exact ⟨o1,g1,λv q=>by rw[d1] at q;cases q⟩
  ·exact ⟨o2,g2,λv q=>by rw[d2] at q;cases q⟩
 keep:=λi h h' st k=>by
  obtain ⟨hz,hTI,⟨a,c,hTO⟩,h1,h2⟩:=st;exact ⟨k z (by simp) _ hz,k TI (by simp) _ hTI,⟨a,c,k TO (by simp) _ hTO⟩,h1.at λo e=>k i1 (by simp) o e,h2.at λo e=>k i2 (by simp) o e⟩
 item:=by
  intro X hP hw hK hc i pins s σ H E I hf st hg;subst hP hw hK;obtain ⟨hz,hTI,⟨a,c,hTO⟩,h1,h2⟩:=st;obtain ⟨xs,ys,x,y,qx,qy,ex,ey⟩:=hg;obtain ⟨us,rx,px,_⟩:=I.list qx;obtain ⟨ws,ry,py,_⟩:=I.list qy;obtain ⟨u,eu,ru⟩:=rx.get ex;obtain ⟨v,ev,rv⟩:=ry.get ey;have D:=xB hz hTI hTO h1 h2 px.isList py.isList hT hi;refine wpAny_pyNext_zip_item D hz hTI hTO h1 h2 px.isList py.isList (x:=u) (y:=v) (by simpa using eu) (by simpa using ev) λh' a1 a2 a3 a4 a5 a6 hk=>?_
  refine ⟨_,rfl,wpAny_letOwnedTupleGo_zip a1 λh'' hz'' hs=>?_⟩;have hT0:H s.heap.objs.size=none:=I.hok.fresh (ao _);have zne:s.heap.objs.size≠z:=DB (Heap.lt_size hz)
  have up:∀b o,b∉[z,TO,i1,i2]->s.heap.get? b=some o->h''.get? b=some o:=λb o hb e=>by
   simp only[aE,aO,or_false,not_or] at hb;exact (hs.2 b hb.1).trans (hk b o hb.1 hb.2.1 hb.2.2.1 hb.2.2.2 e)
  have fx:∀b∈[z,TO,i1,i2],ig X pins H b:=λb hb=>hf b (by
   simp only[aE,aO,or_false] at hb ⊢;rcases hb with rfl | rfl | rfl | rfl <;> simp)
  have nx:∀b o,H b=some o->b∉[z,TO,i1,i2]:=λb o e hb=>by
   have:=(fx b hb).1;rw[this] at e;cases e
  have nT:∀{b:Addr} {o:HO},H b=some o->b≠s.heap.objs.size:=λe q=>by rw[q,hT0] at e;cases e
  have tup:h''.get? s.heap.objs.size=some { cls:=.type "tuple",data:=.seq #[u,v] }:=(hs.2 _ zne).trans a5
  have I2:Inv X pins σ (upd H s.heap.objs.size (.tup [x,y])) { s with heap:=h'' }:=by
   refine I.step (g':=s.gens) (d':=s.drawn) (t':=s.toks) (ch:=[z,TO,i1,i2]) (λb hb=>?_) (λb o _ _ hb e _=>up b o hb e) (λb o _ _ hb e _=>⟨o.slots,up b o hb e⟩) (λb o hb e n=>?_)
    (λb o hb e=>⟨o,up b o hb e⟩) (λb q e=>by rw[a7 (nT e)];exact e) (λb o q e=>by rw[a7 (nT e)];exact e) (λb q e=>⟨#[],by rw[a7 (nT e),e];simp⟩) (λm hm=>?_) (λb o e=>?_) I.bare
   ·obtain ⟨_,f1,_,f3,f4,f5⟩:=fx b hb;exact ⟨f3,f1,f4,f5⟩
   ·rw[a7 (cm (Heap.lt_size e))];exact n
   ·obtain ⟨o,es,ep,ho,r⟩:=hm;exact ⟨o,es,ep,up _ o (λz=>(fx _ z).2.1 rfl) ho,r⟩
   ·by_cases hb:b=s.heap.objs.size
    ·subst hb;rw[aH] at e;cases e;exact ⟨fW rfl,[u,v],.cons ru (.cons rv .nil),⟨_,tup,rfl,_,rfl⟩⟩
    ·rw[a7 hb] at e;refine (I.hok b o e).stay (λc v' hc q=>up c v' ?_ q) (λc q=>by rw[a7 (nT q)];exact q) λc xs q=>by rw[a7 (nT q)];exact q
     rcases hc with rfl | hc
     ·exact nx _ _ e
     ·exact nx _ _ hc
  refine ⟨.ref s.heap.objs.size,_,I2,rfl,⟨_,x,y,rfl,hT0,rfl,λxs' q=>by rw[I.list_inj q qx];exact ex,λys' q=>by rw[I.list_inj q qy];exact ey⟩,?_,λb hb=>?_⟩
  ·refine ⟨hz'',(hs.2 _ D.TIz).trans (hk _ _ D.TIz D.TITO D.TIi1 D.TIi2 hTI),⟨_,_,(hs.2 _ D.TOz).trans a2⟩,a3.at λo e=>(hs.2 _ D.i1z).trans e,a4.at λo e=>(hs.2 _ D.i2z).trans e⟩
  ·obtain ⟨o,e,_⟩:∃o,s.heap.get? b=some o/\True:=by
    obtain ⟨o1,g1,_⟩:=h1;obtain ⟨o2,g2,_⟩:=h2;simp only[aE,aO,or_false] at hb;rcases hb with rfl | rfl | rfl | rfl | rfl
    ·exact ⟨_,hz,trivial⟩
    ·exact ⟨_,hTI,trivial⟩
    ·exact ⟨_,hTO,trivial⟩
    ·exact ⟨_,g1,trivial⟩
    ·exact ⟨_,g2,trivial⟩
   rw[a7 (cm (Heap.lt_size e))];exact (hf b hb).1
 done:=by
  intro X hP hw hK hc i pins s σ H E I hf st hg;subst hP hw hK;obtain ⟨hz,hTI,⟨a,c,hTO⟩,h1,h2⟩:=st;obtain ⟨xs,ys,qx,qy,hend⟩:=hg;obtain ⟨us,rx,px,_⟩:=I.list qx;obtain ⟨ws,ry,py,_⟩:=I.list qy;have lx:=rx.length;have ly:=ry.length;have D:=xB hz hTI hTO h1 h2 px.isList py.isList hT hi
  refine wpAny_pyNext_zip_end (I.ok.hd hc) D hz hTI hTO h1 h2 px.isList py.isList (by
   rcases hend with q | q
   ·exact .inl (by simp;lia)
   ·exact .inr (by simp;lia)) λh' hk=>⟨rfl,?_⟩
  have up:∀b o,b∉[z,TO,i1,i2]->s.heap.get? b=some o->h'.get? b=some o:=λb o hb e=>by
   simp only[aE,aO,or_false,not_or] at hb;exact hk b o hb.1 hb.2.1 hb.2.2.1 hb.2.2.2 e
  have fx:∀b∈[z,TO,i1,i2],ig X pins H b:=λb hb=>hf b (by
   simp only[aE,aO,or_false] at hb ⊢;rcases hb with rfl | rfl | rfl | rfl <;> simp)
  have nx:∀b o,H b=some o->b∉[z,TO,i1,i2]:=λb o e hb=>by
   have:=(fx b hb).1;rw[this] at e;cases e
  refine I.step (g':=s.gens) (d':=s.drawn) (t':=s.toks) (ch:=[z,TO,i1,i2]) (λb hb=>?_) (λb o _ _ hb e _=>up b o hb e) (λb o _ _ hb e _=>⟨o.slots,up b o hb e⟩) (λb o hb e n=>n)
   (λb o hb e=>⟨o,up b o hb e⟩) (λb q e=>e) (λb o q e=>e) (λb q e=>⟨#[],by rw[e];simp⟩) (λm hm=>?_) (λb o e=>?_) I.bare
  ·obtain ⟨_,f1,_,f3,f4,f5⟩:=fx b hb;exact ⟨f3,f1,f4,f5⟩
  ·obtain ⟨o,es,ep,ho,r⟩:=hm;exact ⟨o,es,ep,up _ o (λz=>(fx _ z).2.1 rfl) ho,r⟩
  ·refine (I.hok b o e).stay (λc v' hc q=>up c v' ?_ q) (λc q=>q) λc xs q=>q
   rcases hc with rfl | hc
   ·exact nx _ _ e
   ·exact nx _ _ hc
 self:=λ_ _ _ _ _ st h=>wpAny_pyIter_zip st.1 h
section
variable {X:Cx}
def J9 (K:FG9) (ta:TA):TI:=λσ H R=>ta σ H λvs H1=>∃l1 l2,vs=[.ref l1,.ref l2]/\(∃xs,bD K H1 l1 xs)/\(∃ys,bD K H1 l2 ys)/\R (LW K l1 l2) H1
theorem zx {a b:Expr} {ta:TA} {p pos tpos:Pos} {elts:List Expr} {kk:Nat} (hg:Gl X "zip") (hm:X.mg "zip"=none) (ha:PA X [a,b] ta) (hs:starEach [a,b] X.env=[(false,eval a X.env),(false,eval b X.env)]:=by rfl) (hs2:starEach [b] X.env=[(false,eval b X.env)]:=by rfl) :
  PI X (.Tuple elts kk tpos) (.Call (.Name "zip" p) [a,b] [] pos) (J9 X.K ta):=by
 intro pins s σ H R I h;refine Call_ (ib I hg hm boot_zip (PyProof.Rows.callWith_type1 (eJ (ha pos pins s σ H _ I h) λus s1 ⟨vs,H1,I1,r1,q1⟩=>?_) (by rw[hs,hs2]) (by rw[hs2];rfl)));obtain ⟨l1,l2,e,⟨xs,qx⟩,⟨ys,qy⟩,q⟩:=q1;subst e;obtain ⟨u,v,rfl,ru,rv⟩:=vals2 r1;cases ru;cases rv;obtain ⟨us,rx,px,_⟩:=I1.list qx;obtain ⟨ws,ry,py,_⟩:=I1.list qy;refine call_zip_2 px.isList py.isList λh' a1 a2 a3 a4 a5 a6 hk=>wpAny_pyIter_zip a1 ?_
 have I2:Inv X pins σ H1 { s1 with heap:=h' }:=I1.kept (t':=s1.toks) hk;refine ⟨_,[s1.heap.objs.size+4,s1.heap.objs.size+2,s1.heap.objs.size+3,s1.heap.objs.size,s1.heap.objs.size+1],_,_,H1,rfl,I2,Ew (s1.heap.objs.size+4) (s1.heap.objs.size+2) (s1.heap.objs.size+3) s1.heap.objs.size (s1.heap.objs.size+1) l1 l2 (cm (dA _)) (cm (dA _)),⟨a1,a2,⟨_,_,a3⟩,a4,a5⟩,λb hb=>?_,q⟩
 have hb':s1.heap.objs.size<=b:=by
  simp only[aE,aO,or_false] at hb;rcases hb with rfl | rfl | rfl | rfl | rfl <;> first | exact uh _ _ | exact ao _
 exact I1.fpOk hb' (I1.hok.fresh hb')
theorem we (hc:X.calm=true):oi X (.builtin "all") (λxs H Q=>∃(p:Addr) (bs:List Bool),xs=[.ref p]/\bD X.K H p (bs.map V.bl)/\Q (.bl (bs.all id)) H):=by
 intro pins s σ H xs us Q I r h;obtain ⟨p,bs,rfl,hp,q⟩:=h;obtain ⟨u,rfl,ru⟩:=vals1 r;cases ru;obtain ⟨vs,rv,pl,hz⟩:=I.list hp
 have hb:PyProof.Rows.LSm.BoolsAre vs bs:=by
  clear q hp pl hz
  induction bs generalizing vs with
  | nil=>cases rv;exact .nil
  | cons b bs ih =>
   rw[fV] at rv;cases rv with
   | cons r1 r2=>cases r1;exact .cons b (ih _ r2)
 have hlt:p < s.heap.objs.size:=by obtain ⟨_,e,_⟩:=pl.isList;exact Heap.lt_size e
 refine call_all_walk (wpAny_pyIter_list pl.isList ?_)
 refine ⟨s.heap.objs.size,[s.heap.objs.size,p],[s.heap.objs.size],vs.toArray.size,_,_,λi=>(bs[i]?).getD true,rfl,Walks.list (A:=X.A.in1) (I.ok.hd hc) _ p (cm hlt) vs.toArray,
  ⟨⟨_,Heap.get?_push_size _ rfl,rfl,rfl⟩,pl.isList.push _⟩,λi v s' Q' E' hP hQ=>?_,λh' tk hk=>?_⟩
 ·obtain ⟨b,e,rfl⟩:=hb.get i v (by simpa using hP);simp only[e,Option.getD_some] at hQ;exact wpAny_truthy_bool hQ
 ·have e:((List.range vs.toArray.size).all λi=>(bs[i]?).getD true)=bs.all id:=by
   rw[aI,hb.length];exact PyProof.Rows.LSm.range_all bs
  rw[e];exact ⟨.bl _,H,I.kept (t':=tk) (PyProof.Rows.LSm.kept_iter hk),rfl,q⟩
theorem FQ (hc:X.calm=true):oi X (.builtin "sum") (λxs H Q=>∃(p:Addr) (ns:List Int),xs=[.ref p]/\bD X.K H p (ns.map V.int)/\Q (.int ns.sum) H):=by
 intro pins s σ H xs us Q I r h;obtain ⟨p,ns,rfl,hp,q⟩:=h;obtain ⟨u,rfl,ru⟩:=vals1 r;cases ru;obtain ⟨vs,rv,pl,_⟩:=I.list hp;have hi:IntsAre vs ns:=intsAre_of rv;obtain ⟨xs,hx⟩:=hi.allInts.items;have hl':s.heap.IsList p (intItems xs):=hx ▸ pl.isList;refine sum_intListG (I.ok.hd hc) hl' λh' tk t' hk=>?_
 have e1:ns=xs.toList.map (·.1):=by
  rw[<- nums_intItems,<- hx];exact (show numsOf vs.toArray.toList=ns from hi.numsOf).symm
 have e2:preSum (numAt xs) xs.size=ns.sum:=by
  rw[preSum_eq,aG (by simp),e1]
 rw[e2];exact ⟨.int _,H,I.kept (t':=tk) hk,⟨_,rfl⟩,q⟩
end
section
variable {K:FG9} {l1 l2:Addr} {xs ws:List V} {g:TG} {tf:TT} {te:TE} {Q:VK} {σ₀:St} {H:Hp}
theorem wb (Pv:Nat->List V->Hp->Prop) (hz:xs.length<=sizeLine) (hw:ws.length=xs.length) (h0:Pv 0 [] H) (hl:∀i ys H,i<=xs.length->Pv i ys H->bD K H l1 xs/\bD K H l2 ws)
  (hs:∀i x y ys H p,xs[i]?=some x->ws[i]?=some y->ys.length<=i->Pv i ys H->H p=none->mU σ₀ g tf te (.ref p) (upd H p (.tup [x,y])) (λy H'=>Pv (i+1) (ys++[y]) H') (λH'=>Pv (i+1) ys H'))
  (hd:∀ys H,ys.length<=xs.length->Pv xs.length ys H->∀p,H p=none->Q (.ref p) (upd H p (.lst ys))):oh (LW K l1 l2) σ₀ g tf te Q H:=by
 refine ⟨λi m ys H=>m=xs.length - i/\i<=xs.length/\ys.length<=i/\Pv i ys H,⟨xs.length,by simp,bo _,bo _,h0⟩,?_⟩;rintro i m ys H ⟨rfl,hi,hy,p⟩;obtain ⟨q1,q2⟩:=hl i ys H hi p;by_cases hlt:i < xs.length
 ·refine .inr ⟨⟨xs,ws,xs[i],ws[i]'(by lia),q1,q2,by simp [hlt],by simp⟩,by lia,λy H'=>Pv (i+1) (ys++[y]) H',λH'=>Pv (i+1) ys H',λy H' p'=>⟨xs.length - (i+1),by lia,rfl,hlt,by rw[aw,aS];lia,p'⟩,λH' p'=>⟨xs.length - (i+1),by lia,rfl,hlt,by lia,p'⟩,λx H' y=>?_⟩;obtain ⟨r,x',y',rfl,hr,rfl,e1,e2⟩:=y;exact hs i x' y' ys _ r (e1 xs q1) (e2 ws q2) hy p hr
 ·have e:i=xs.length:=by lia
  subst e;exact .inl ⟨⟨xs,ws,q1,q2,.inl (ao _)⟩,by lia,hd ys H hy p⟩
end
section
variable {X:Cx}
theorem qE (K:FG9) (n:Nat) {es:List Expr} {k:Nat} {pos:Pos} {t:F0} (h:Lz X es t) (hK:X.K=K:=by rfl) (hc:X.calm=true:=by rfl)
  (hn:(assignEach es X.env).length=n:=by rfl) (hst:(assignEach es X.env).findIdx? (·.1)=none:=by rfl):PG X (.Tuple es k pos) (Kc K n t):=by subst hK;exact zy hc h hn hst
theorem uz (K:FG9) (hK:X.K=K):LD X (JG K):=by subst hK;exact bW
theorem eZ (K:FG9) (hK:X.K=K):LD X (JH K):=by subst hK;exact bM
theorem zG (K:FG9) (hK:X.K=K) (hu:X.A.units+50 < cLine):sT X (compareOp .NotEq) (Lb K):=by subst hK;exact pU hu
theorem vn (K:FG9) {tg l:Expr} {tl:TE} (hl:PE X l tl) (hK:X.K=K:=by rfl):PI X tg l (Fo K tl):=by subst hK;exact bV hl
theorem qo (K:FG9) (hK:X.K=K):Mg X (JE K):=by subst hK;exact za
end
theorem di {X:Cx} {e e':Expr} {es:List Expr} {te:TE} {t:TA} (h:e=e') (ha:PE X e' te) (hr:PA X es t) (hs:∀l,starEach (e' :: l) X.env=(false,eval e' X.env) :: starEach l X.env:=by intro _;rfl):PA X (e :: es) (mV te t):=by subst h;exact ae ha hr (hs _)
section
variable {σ:St} {H:Hp} {D:Ends} {Q:VK}
theorem jf (hl:H l=some (.lst xs)) (hz:xs.length < sizeLine) (h:Q .non (upd H l (.lst (xs++[y])))):CS (.ref l) [y] H Q:=⟨l,xs,y,rfl,rfl,hl,hz,h⟩
theorem GO {K:FG9} (h:ta σ H λvs H1=>∃l1 l2,vs=[.ref l1,.ref l2]/\(∃xs,bD K H1 l1 xs)/\(∃ys,bD K H1 l2 ys)/\R (LW K l1 l2) H1):J9 K ta σ H R:=h
theorem lI (h1:H l=some (.lst xs)) (h2:H b=some (.lst zs)) (hz:xs.length+zs.length<=sizeLine) (h:∀p H',aF H H'->H p=none->H' p=some (.lst (xs++zs))->Q (.ref p) H'):Lc (.ref l) (.ref b) H Q :=
 ⟨l,b,xs,zs,rfl,rfl,h1,h2,hz,λp hp=>h p _ (aF.new hp) hp aH⟩
theorem vf {K:FG9} {lo hi:Option Int} (h1:bD K H a xs) (h:∀p H',aF H H'->H p=none->H' p=some (.lst (oE xs lo hi))->Q (.ref p) H'):JE K (.ref a) lo hi H Q :=
 ⟨a,xs,rfl,h1,λp hp=>h p _ (aF.new hp) hp aH⟩
theorem jF {xs:List α} {i:Int} (h0:0<=i) (h1:i < xs.length):∃v,Cq xs i=some v/\v∈xs/\xs[i.toNat]?=some v:=by
 have hj:i.toNat < xs.length:=by lia
 refine ⟨xs[i.toNat],?_,aZ hj,by simp [hj]⟩;have:=eG (xs:=xs) (j:=i.toNat) (v:=xs[i.toNat]) (by simp [hj]);rwa [Int.toNat_of_nonneg h0] at this
end
theorem cC {α β:Type} {F:α->β->Prop}:∀{l1:List α} {l2:List β} {y:β},Paired F l1 l2->y∈l2->∃x∈l1,F x y
 | _,_,_,.nil,h=>nomatch h
 | _,_,_,.cons r t,h=>by
  rcases aE.mp h with rfl | h
  ·exact ⟨_,cM,r⟩
  ·obtain ⟨x,hx,q⟩:=cC t h;exact ⟨x,bF _ hx,q⟩
theorem cw {F:α->β->Prop} {l1:List α} {l2:List β} {i:Nat} {y:β} (h:Paired F l1 l2) (e:l2[i]?=some y):∃x,l1[i]?=some x/\F x y:=by
 have hl:=h.length;have hi:i < l2.length:=(aA.mp e).1;refine ⟨l1[i]'(by lia),by simp,?_⟩;have:=gX h (i:=i) (by lia) hi;have e2:l2[i]=y:=(aA.mp e).2;rwa [e2] at this
def rJ (n:Int×Int):Prop:=0 < n.2/\Int.gcd n.1 n.2=1/\Sz 8000 n.1/\Sz 8000 n.2
theorem take_snoc {α:Type} {l:List α} {v:α} (h:l[i]?=some v):l.take (i+1)=l.take i++[v]:=by rw[List.take_add_one,h];rfl
theorem aF.after (s:aF H H') (h:H r=Option.none):aF H (upd H' r o):=λb u e=>by rw[a7 (dS e h)];exact s b u e
theorem cF.after (s:cF b H H') (h:H r=Option.none):cF b H (upd H' r o):=⟨λc u e n=>by rw[a7 (dS e h)];exact s.1 c u e n,λq hi=>(s.2 q hi).upd λz=>by obtain ⟨_,_,_,e⟩:=hi;rw[<- z,h] at e;cases e⟩
theorem cF.same (s:cF b H H') (e:aF H' H''):cF b H H'':=s.trans e.upto
theorem Ai {α:Type} {Pr:α->Prop} {l:List α} {a:α} (h:∀n∈l,Pr n) (ha:Pr a):∀n∈l++[a],Pr n:=λn hn=>by
 rcases ax.mp hn with hn | hn
 ·exact h n hn
 ·have e:n=a:=by simpa using hn
  rw[e];exact ha
abbrev wM (h:Heap) (z TI TO:Addr) (f0 f1:Value):Prop:=h.get? z=some { cls:=.type "zip",dict:=none,data:=.fields #[f0,f1,.bool false,.ref TI,.ref TO],slots:=#[] }
section
variable {prog:Program} {w:World} {A:Around} {E:Value->Shared->Prop} {s:Shared}
theorem Cr (e:s.heap.get? a=some o) (h:Q (some o) s):wpAny (model prog w) A (loadIfAlive a) Q E s:=by
 intro Γ p hp;show Sem.wp _ _ (.loadIfAlive a .pure) _ _ _ _
 simp only[Sem.wp_loadIfAlive,e];exact wpAny_pure h Γ p hp
theorem vv {z TI TO T:Addr} (zr:wM s.heap z TI TO (rawInt T) (.bool b1)) (al:s.heap.get? T=some o)
  (h:∀h',wM h' z TI TO (rawInt T) (.bool true)->Heap.SameBut z s.heap h'->Q false { s with heap:=h' }):wpAny (model prog w) A (Builtin.SmallTypes.ownedTupleIsFree (.ref z)) Q E s:=by
 unfold Builtin.SmallTypes.ownedTupleIsFree;refine wpAny_bind (wpAny_field zr rfl (x:=rawInt T) rfl ?_);refine wpAny_bind (Cr (a:=T) al ?_);refine wpAny_bind (wpAny_field zr rfl (x:=.bool b1) rfl ?_);cases b1 with
 | true=>exact wpAny_pure (h _ zr (.refl ..))
 | false=>exact wpAny_bind (wpAny_setField_rec zr (by simp) λh' zr' sb=>wpAny_pure (h h' zr' sb))
theorem D4 {z TI TO T i1 i2 l1 l2:Addr} {Q:Value->Shared->Prop} (D:ZipApart z TI TO i1 i2 l1 l2) (zr:wM s.heap z TI TO (rawInt T) (.bool b1)) (al:s.heap.get? T=some o)
  (pt:IsPair s.heap TI (.ref i1) (.ref i2)) (j1:s.heap.IsListIter i1 l1 k1) (j2:s.heap.IsListIter i2 l2 k2) (m1:s.heap.IsList l1 us) (m2:s.heap.IsList l2 ws) (eu:us[k1]?=some u) (ev:ws[k2]?=some v)
  (hQ:∀h',wM h' z TI TO (rawInt T) (.bool true)->h'.IsListIter i1 l1 (k1+1)->h'.IsListIter i2 l2 (k2+1)->IsPair h' s.heap.objs.size u v->(∀c o,c≠z->c≠i1->c≠i2->s.heap.get? c=some o->h'.get? c=some o)->Q (.ref s.heap.objs.size) { s with heap:=h' }) :
  wpAny (model prog w) A (Builtin.«zip.__next__» ⟨[.ref z],[]⟩) (λfin s'=>∃v,fin=.done (.ret v)/\Q v s') E s:=by
 change wpAny _ _ (field (Value.ref z) 2 >>= _) _ _ s
 refine wpAny_bind (wpAny_field zr rfl (x:=.bool false) rfl ?_)
 change wpAny _ _ (field (Value.ref z) 3 >>= _) _ _ s
 refine wpAny_bind (wpAny_field zr rfl (x:=.ref TI) rfl (wpAny_bind (wpAny_seqItems pt rfl ?_)))
 change wpAny _ _ (Builtin.SmallTypes.ownedTupleIsFree (Value.ref z) >>= _) _ _ s
 refine wpAny_bind (vv zr al λg1 zr1 sb1=>?_);simp only[fG,if_false];refine wpAny_bind ?_;rw[<- Array.forIn_toList];simp only[F3,yR];have j1':=j1.extBut sb1.extBut D.i1z;have m1':=m1.extBut sb1.extBut D.l1z;refine wpAny_bind (wpAny_bind (wpAny_holding ?_))
 change wpAny _ _ (Builtin.SmallTypes.nextOf (Value.ref i1) >>= _) _ _ _
 refine wpAny_bind (wpAny_nextOf_list_item j1' m1' eu λg2 j1a sb2=>wpAny_pure ?_);refine wpAny_pure ?_;have j2':=(j2.extBut sb1.extBut D.i2z).extBut sb2.extBut D.i12.symm;have m2':=(m2.extBut sb1.extBut D.l2z).extBut sb2.extBut D.l2i1;refine wpAny_bind (wpAny_bind (wpAny_holding ?_))
 change wpAny _ _ (Builtin.SmallTypes.nextOf (Value.ref i2) >>= _) _ _ _
 refine wpAny_bind (wpAny_nextOf_list_item j2' m2' ev λg3 j2a sb3=>wpAny_pure ?_);refine wpAny_pure (wpAny_pure ?_);refine wpAny_bind (wpAny_newTuple (hsz:=fW rfl) ?_);have sz:g3.objs.size=s.heap.objs.size:=by rw[sb3.1,sb2.1,sb1.1]
 have up:∀c o,c≠z->c≠i1->c≠i2->s.heap.get? c=some o->g3.get? c=some o:=λc o c1 c2 c3 e=>sb3.extBut _ _ c3 (sb2.extBut _ _ c2 (sb1.extBut _ _ c1 e))
 have zr3:wM g3 z TI TO (rawInt T) (.bool true):=sb3.extBut _ _ D.i2z.symm (sb2.extBut _ _ D.i1z.symm zr1);refine wpAny_pure ⟨_,rfl,?_⟩
 change Q (.ref g3.objs.size) { s with heap:=g3.push { cls:=.type "tuple",data:=.seq #[u,v] } }
 have last:=hQ (g3.push { cls:=.type "tuple",data:=.seq #[u,v] }) (Heap.get?_push_of_some _ zr3) ((j1a.extBut sb3.extBut D.i12).at λo e=>Heap.get?_push_of_some _ e) (j2a.at λo e=>Heap.get?_push_of_some _ e)
  (by rw[<- sz];exact Heap.get?_push_size _ rfl) λc o c1 c2 c3 e=>Heap.get?_push_of_some _ (up c o c1 c2 c3 e)
 rw[sz];exact last
theorem Fb {z TI TO T i1 i2 l1 l2:Addr} (hh:A.handled=none) (D:ZipApart z TI TO i1 i2 l1 l2) (zr:wM s.heap z TI TO (rawInt T) (.bool b1)) (al:s.heap.get? T=some o)
  (pt:IsPair s.heap TI (.ref i1) (.ref i2)) (j1:s.heap.IsListIter i1 l1 k1) (m1:s.heap.IsList l1 us) (eu:us[k1]?=none)
  (hE:∀h' e,(∀c o,c≠z->c≠i1->c≠i2->s.heap.get? c=some o->h'.get? c=some o)->(∃o,h'.get? e=some o/\o.cls=.type "StopIteration")->E (.ref e) { s with heap:=h' }) :
  wpAny (model prog w) A (Builtin.«zip.__next__» ⟨[.ref z],[]⟩) Q E s:=by
 change wpAny _ _ (field (Value.ref z) 2 >>= _) _ _ s
 refine wpAny_bind (wpAny_field zr rfl (x:=.bool false) rfl ?_)
 change wpAny _ _ (field (Value.ref z) 3 >>= _) _ _ s
 refine wpAny_bind (wpAny_field zr rfl (x:=.ref TI) rfl (wpAny_bind (wpAny_seqItems pt rfl ?_)))
 change wpAny _ _ (Builtin.SmallTypes.ownedTupleIsFree (Value.ref z) >>= _) _ _ s
 refine wpAny_bind (vv zr al λg1 zr1 sb1=>?_);simp only[fG,if_false];refine wpAny_bind ?_;rw[<- Array.forIn_toList];simp only[F3,yR];refine wpAny_bind (wpAny_bind (wpAny_holding ?_))
 change wpAny _ _ (Builtin.SmallTypes.nextOf (Value.ref i1) >>= _) _ _ _
 exact wpAny_bind (wpAny_nextOf_list_end hh (j1.extBut sb1.extBut D.i1z) (m1.extBut sb1.extBut D.l1z) eu λg2 e xb he=>hE g2 e (λc o c1 c2 _ q=>xb _ _ c2 (sb1.extBut _ _ c1 q)) he)
theorem D3 {z TI TO T i1 i2 l1 l2:Addr} (D:ZipApart z TI TO i1 i2 l1 l2) (zr:wM s.heap z TI TO (rawInt T) (.bool b1)) (al:s.heap.get? T=some o)
  (pt:IsPair s.heap TI (.ref i1) (.ref i2)) (j1:s.heap.IsListIter i1 l1 k1) (j2:s.heap.IsListIter i2 l2 k2) (m1:s.heap.IsList l1 us) (m2:s.heap.IsList l2 ws) (eu:us[k1]?=some u) (ev:ws[k2]?=some v)
  (hQ:∀h',wM h' z TI TO (rawInt T) (.bool true)->h'.IsListIter i1 l1 (k1+1)->h'.IsListIter i2 l2 (k2+1)->IsPair h' s.heap.objs.size u v->(∀c o,c≠z->c≠i1->c≠i2->s.heap.get? c=some o->h'.get? c=some o)->Q (some (.ref s.heap.objs.size)) { s with heap:=h' }) :
  wpAny (model prog w) A (pyNext (.ref z)) Q E s:=by
 have ty:s.TypeIs (.ref z) "zip":=⟨_,zr,rfl⟩;unfold pyNext;refine wpAny_bind (wpAny_attempt (wpAny_callSpecial?_slot (name:=Str.ofString "__next__") ty kS (wpAny_call_entry kS ty PySem.F.entry_zip_next ?_ (LH _))));exact D4 D zr al pt j1 j2 m1 m2 eu ev λh' a1 a2 a3 a4 a5=>wpAny_pure (hQ h' a1 a2 a3 a4 a5)
theorem DZ {z TI TO T i1 i2 l1 l2:Addr} (hh:A.handled=none) (D:ZipApart z TI TO i1 i2 l1 l2) (zr:wM s.heap z TI TO (rawInt T) (.bool b1)) (al:s.heap.get? T=some o)
  (pt:IsPair s.heap TI (.ref i1) (.ref i2)) (j1:s.heap.IsListIter i1 l1 k1) (m1:s.heap.IsList l1 us) (eu:us[k1]?=none)
  (hQ:∀h',(∀c o,c≠z->c≠i1->c≠i2->s.heap.get? c=some o->h'.get? c=some o)->Q none { s with heap:=h' }):wpAny (model prog w) A (pyNext (.ref z)) Q E s:=by
 have ty:s.TypeIs (.ref z) "zip":=⟨_,zr,rfl⟩;unfold pyNext;refine wpAny_bind (wpAny_attempt (wpAny_callSpecial?_slot (name:=Str.ofString "__next__") ty kS (wpAny_call_entry kS ty PySem.F.entry_zip_next ?_ (LH _))));refine Fb hh D zr al pt j1 m1 eu λh' e kk ⟨oe,he,hc⟩=>?_
 exact wpAny_bind (wpAny_isInstance (T:="StopIteration") (b:=true) ⟨oe,he,hc⟩ isSubtype_stop (wpAny_pure (hQ _ kk)))
end
section
variable {X:Cx} {pins:List (Addr×Obj)} {σ:St} {H:Hp} {s:Shared}
theorem Inv.moved {ch:List Addr} (I:Inv X pins σ H s) (fx:∀b∈ch,ig X pins H b) (up:∀b o,b∉ch->s.heap.get? b=some o->h'.get? b=some o) (hg:AllBare g') :
  Inv X pins σ H { s with heap:=h',gens:=g',drawn:=d',toks:=t' }:=by
 have nx:∀b o,H b=some o->b∉ch:=λb o e hb=>by have:=(fx b hb).1;rw[this] at e;cases e
 refine I.step (ch:=ch) (λb hb=>?_) (λb o _ _ hb e _=>up b o hb e) (λb o _ _ hb e _=>⟨o.slots,up b o hb e⟩) (λb o hb e n=>n) (λb o hb e=>⟨o,up b o hb e⟩) (λb q e=>e) (λb o q e=>e) (λb q e=>⟨#[],by rw[e];simp⟩) (λm hm=>?_) (λb o e=>?_) hg
 ·obtain ⟨_,f1,_,f3,f4,f5⟩:=fx b hb;exact ⟨f3,f1,f4,f5⟩
 ·obtain ⟨o,es,ep,ho,r⟩:=hm;exact ⟨o,es,ep,up _ o (λz=>(fx _ z).2.1 rfl) ho,r⟩
 ·refine (I.hok b o e).stay (λc v' hc q=>up c v' ?_ q) (λc q=>q) λc xs q=>q
  rcases hc with rfl | hc
  ·exact nx _ _ e
  ·exact nx _ _ hc
theorem Inv.track (I:Inv X pins σ H s) (fp:ig X pins H p) (new:fQ X.prog X.w (upd H p o) s.heap p o):Inv X pins σ (upd H p o) s:=by
 have nt:∀{b:Addr} {u:HO},H b=some u->b≠p:=λe z=>by rw[z,fp.1] at e;cases e
 refine I.step (h':=s.heap) (g':=s.gens) (d':=s.drawn) (t':=s.toks) (ch:=[p]) (λb hb=>?_) (λb o _ _ _ e _=>e) (λb o _ _ _ e _=>⟨o.slots,e⟩) (λb o hb e n=>?_) (λb o _ e=>⟨o,e⟩) (λb q e=>by rw[a7 (nt e)];exact e) (λb o q e=>by rw[a7 (nt e)];exact e)
  (λb q e=>⟨#[],by rw[a7 (nt e),e];simp⟩) (λm hm=>hm) (λb u e=>?_) I.bare
 ·have e:b=p:=by simpa using hb
  subst e;obtain ⟨_,f1,_,f3,f4,f5⟩:=fp;exact ⟨f3,f1,f4,f5⟩
 ·rw[a7 λz=>hb (by simp [z])];exact n
 ·by_cases hb:b=p
  ·subst hb;rw[aH] at e;cases e;exact new
  ·rw[a7 hb] at e;exact (I.hok b u e).stay (λc v _ q=>q) (λc q=>by rw[a7 (nt q)];exact q) λc xs q=>by rw[a7 (nt q)];exact q
end
def IT (H:Hp) (p:V×V) (x:V):Prop:=∃T,x=.ref T/\H T=some (.tup [p.1,p.2])
theorem IT.same (h:IT H p x) (e:aF H H'):IT H' p x:=by obtain ⟨T,q,g⟩:=h;exact ⟨T,q,e _ _ g⟩
def Zst (h:Heap) (z TI TO:Addr) (base:Nat):Prop:=(∃a b,IsPair h TO a b)/\(IsZip h z TI TO .none\/∃(T:Addr) (b1:Bool) (o:Obj),wM h z TI TO (rawInt T) (.bool b1)/\h.get? T=some o/\@LE.le Nat instLENat base T)
theorem yS {z TI TO i1 i2 l1 l2:Addr} (hz:wM h z TI TO f0 f1) (hTI:IsPair h TI (.ref i1) (.ref i2)) (hTO:IsPair h TO a b) (h1:h.IsListIter i1 l1 k1) (h2:h.IsListIter i2 l2 k2) (hl1:h.IsList l1 xs) (hl2:h.IsList l2 ys) (hT:TI≠TO) (hi:i1≠i2):ZipApart z TI TO i1 i2 l1 l2:=by
 obtain ⟨o1,g1,c1,_⟩:=h1;obtain ⟨o2,g2,c2,_⟩:=h2;obtain ⟨p1,q1,d1,_⟩:=hl1;obtain ⟨p2,q2,d2,_⟩:=hl2;have zt:Value.type "zip"≠.type "tuple":=ji (by decide);have it:Value.type "list_iterator"≠.type "tuple":=ji (by decide);have iz:Value.type "list_iterator"≠.type "zip":=ji (by decide);have lz:Value.type "list"≠.type "zip":=ji (by decide);have lt:Value.type "list"≠.type "tuple":=ji (by decide);have li:Value.type "list"≠.type "list_iterator":=ji (by decide)
 exact ⟨cH hTI hz zt.symm,cH hTO hz zt.symm,cH g1 hz (by rw[c1];exact iz),cH g2 hz (by rw[c2];exact iz),hT,cH hTI g1 (by rw[c1];exact it.symm),cH hTI g2 (by rw[c2];exact it.symm),cH hTO g1 (by rw[c1];exact it.symm),cH hTO g2 (by rw[c2];exact it.symm),hi,
  cH q1 hz (by rw[d1];exact lz),cH q1 hTO (by rw[d1];exact lt),cH q1 g1 (by rw[d1,c1];exact li),cH q1 g2 (by rw[d1,c2];exact li),cH q2 hz (by rw[d2];exact lz),cH q2 hTO (by rw[d2];exact lt),cH q2 g1 (by rw[d2,c1];exact li),cH q2 g2 (by rw[d2,c2];exact li)⟩
section
variable {X:Cx} {pins:List (Addr×Obj)} {σ:St}
theorem ig.heap (f:ig X pins H b) (e:H' b=none):ig X pins H' b:=⟨e,f.2⟩
structure Al where
 z:Addr
 TI:Addr
 TO:Addr
 i1:Addr
 i2:Addr
 S:Addr
 base:Nat
def Al.all (a:Al):List Addr:=[a.z,a.TI,a.TO,a.i1,a.i2,a.S]
structure Al.Ok (a:Al):Prop where
 tt:a.TI≠a.TO
 ii:a.i1≠a.i2
 Sz:a.S≠a.z
 STI:a.S≠a.TI
 STO:a.S≠a.TO
 Si1:a.S≠a.i1
 Si2:a.S≠a.i2
 lt:∀b∈a.all,@LT.lt Nat instLTNat b a.base
structure Ic (X:Cx) (pins:List (Addr×Obj)) (σ:St) (H1:Hp) (a:Al) (l1 l2:Addr) (i:Nat) (H:Hp) (s:Shared):Prop where
 inv:Inv X pins σ H s
 same:aF H1 H
 fps:∀b∈a.all,ig X pins H b
 sz:a.base<=s.heap.objs.size
 zst:Zst s.heap a.z a.TI a.TO a.base
 pt:IsPair s.heap a.TI (.ref a.i1) (.ref a.i2)
 j1:s.heap.IsListIter a.i1 l1 i
 j2:s.heap.IsListIter a.i2 l2 i
variable {a:Al} {l1 l2:Addr} {H1 H:Hp} {s:Shared} {i:Nat} {xs ys:List V}
theorem Ic.push (L:Ic X pins σ H1 a l1 l2 i H s) (O:a.Ok) (k:∀b o,b≠a.S->s.heap.get? b=some o->h'.get? b=some o) (hz:h'.objs.size=s.heap.objs.size):Ic X pins σ H1 a l1 l2 i H { s with heap:=h' }:=by
 refine ⟨L.inv.moved (g':=s.gens) (d':=s.drawn) (t':=s.toks) (ch:=[a.S]) (λb hb=>?_) (λb o hb e=>k b o (λz=>hb (by simp [z])) e) L.inv.bare,L.same,L.fps,by show a.base<=h'.objs.size;rw[hz];exact L.sz,?_,k _ _ O.STI.symm L.pt,L.j1.at λo e=>k _ o O.Si1.symm e,L.j2.at λo e=>k _ o O.Si2.symm e⟩
 ·have e:b=a.S:=by simpa using hb
  rw[e];exact L.fps _ (by simp [Al.all])
 ·obtain ⟨⟨c,d,z0⟩,z4⟩:=L.zst;refine ⟨⟨c,d,k _ _ O.STO.symm z0⟩,?_⟩;rcases z4 with z1 | ⟨T,b1,o,z1,z2,z3⟩
  ·exact .inl (k _ _ O.Sz.symm z1)
  ·refine .inr ⟨T,b1,o,k _ _ O.Sz.symm z1,k _ _ (λe=>?_) z2,z3⟩;have:=O.lt a.S (by simp [Al.all]);rw[<- e] at this;exact absurd this (Nat.not_lt.mpr z3)
theorem Ep (O:a.Ok) (q1:bD X.K H1 l1 xs) (q2:bD X.K H1 l2 ys) (ex:xs[i]?=some x) (ey:ys[i]?=some y) (L:Ic X pins σ H1 a l1 l2 i H s)
  (hQ:∀s',Ic X pins σ H1 a l1 l2 (i+1) (upd H s.heap.objs.size (.tup [x,y])) s'->(∀c o,c∉[a.z,a.TO,a.i1,a.i2]->s.heap.get? c=some o->s'.heap.get? c=some o)->H s.heap.objs.size=none->Q (some (.ref s.heap.objs.size)) s'):wpAny (model X.prog X.w) A' (pyNext (.ref a.z)) Q E s:=by
 obtain ⟨I,sm,fps,sz,zst,pt,j1,j2⟩:=id L;obtain ⟨us,ru,pu,_⟩:=I.list (sm.seq q1);obtain ⟨ws,rw',pw,_⟩:=I.list (sm.seq q2);obtain ⟨u,eu,r1⟩:=ru.get ex;obtain ⟨v,ev,r2⟩:=rw'.get ey;have fx:∀b∈[a.z,a.TO,a.i1,a.i2],ig X pins H b:=λb hb=>fps b (by simp only[Al.all,aE,aO,or_false] at hb ⊢;rcases hb with e | e | e | e <;> simp [e])
 have hT0:H s.heap.objs.size=none:=I.hok.fresh (ao _);have fT:ig X pins H s.heap.objs.size:=I.fpOk (ao _) hT0;have lt:∀b∈a.all,b≠s.heap.objs.size:=λb hb e=>by have:=O.lt b hb;rw[e] at this;exact absurd this (Nat.not_lt.mpr sz)
 have fin:∀h',(∀c o,c∉[a.z,a.TO,a.i1,a.i2]->s.heap.get? c=some o->h'.get? c=some o)->IsPair h' s.heap.objs.size u v->IsPair h' a.TI (.ref a.i1) (.ref a.i2)->h'.IsListIter a.i1 l1 (i+1)->h'.IsListIter a.i2 l2 (i+1)->Zst h' a.z a.TI a.TO a.base →
   Q (some (.ref s.heap.objs.size)) { s with heap:=h' }:=λh' up pr pt' j1' j2' zst'=>by
  have I2:Inv X pins σ H { s with heap:=h' }:=I.moved (g':=s.gens) (d':=s.drawn) (t':=s.toks) fx up I.bare;have I3:Inv X pins σ (upd H s.heap.objs.size (.tup [x,y])) { s with heap:=h' }:=I2.track fT ⟨fW rfl,[u,v],.cons r1 (.cons r2 .nil),⟨_,pr,rfl,_,rfl⟩⟩;refine hQ _ ⟨I3,sm.trans (aF.new hT0),λb hb=>(fps b hb).heap (by rw[a7 (lt b hb)];exact (fps b hb).1),?_,zst',pt',j1',j2'⟩ up hT0;exact aj sz (aL (Heap.lt_size pr))
 obtain ⟨⟨c,d,z0⟩,z4⟩:=zst;rcases z4 with z1 | ⟨T,b1,o,z1,z2,z3⟩
 ·have D:=yS z1 pt z0 j1 j2 pu.isList pw.isList O.tt O.ii;refine wpAny_pyNext_zip_item D z1 pt z0 j1 j2 pu.isList pw.isList (x:=u) (y:=v) (by simpa using eu) (by simpa using ev) λh' a1 a2 a3 a4 a5 a6 hk=>?_
  have up:∀c o,c∉[a.z,a.TO,a.i1,a.i2]->s.heap.get? c=some o->h'.get? c=some o:=λc o hc e=>by
   simp only[aE,aO,or_false,not_or] at hc;exact hk c o hc.1 hc.2.1 hc.2.2.1 hc.2.2.2 e
  exact fin h' up a5 (hk _ _ D.TIz D.TITO D.TIi1 D.TIi2 pt) a3 a4 ⟨⟨_,_,a2⟩,.inr ⟨s.heap.objs.size,false,_,a1,a5,sz⟩⟩
 ·have D:=yS z1 pt z0 j1 j2 pu.isList pw.isList O.tt O.ii;refine D3 D z1 z2 pt j1 j2 pu.isList pw.isList (u:=u) (v:=v) (by simpa using eu) (by simpa using ev) λh' a1 a3 a4 a5 hk=>?_
  have up:∀c o,c∉[a.z,a.TO,a.i1,a.i2]->s.heap.get? c=some o->h'.get? c=some o:=λc o hc e=>by
   simp only[aE,aO,or_false,not_or] at hc;exact hk c o hc.1 hc.2.2.1 hc.2.2.2 e
  have Tn:∀b∈a.all,T≠b:=λb hb e=>by have:=O.lt b hb;rw[<- e] at this;exact absurd this (Nat.not_lt.mpr z3)
  exact fin h' up a5 (hk _ _ D.TIz D.TIi1 D.TIi2 pt) a3 a4 ⟨⟨_,_,hk _ _ D.TOz D.TOi1 D.TOi2 z0⟩,.inr ⟨T,true,o,a1,hk _ _ (Tn _ (by simp [Al.all])) (Tn _ (by simp [Al.all])) (Tn _ (by simp [Al.all])) z2,z3⟩⟩
theorem Eo (hh:A'.handled=none) (O:a.Ok) (q1:bD X.K H1 l1 xs) (q2:bD X.K H1 l2 ys) (hi:xs.length<=i) (L:Ic X pins σ H1 a l1 l2 i H s)
  (hQ:∀s',Inv X pins σ H s'->(∀c o,c∉[a.z,a.TO,a.i1,a.i2]->s.heap.get? c=some o->s'.heap.get? c=some o)->Q none s'):wpAny (model X.prog X.w) A' (pyNext (.ref a.z)) Q E s:=by
 obtain ⟨I,sm,fps,sz,zst,pt,j1,j2⟩:=id L;obtain ⟨us,ru,pu,_⟩:=I.list (sm.seq q1);obtain ⟨ws,rw',pw,_⟩:=I.list (sm.seq q2);have lx:=ru.length;have none1:us.toArray[i]?=none:=by simp;lia
 have fx:∀b∈[a.z,a.TO,a.i1,a.i2],ig X pins H b:=λb hb=>fps b (by simp only[Al.all,aE,aO,or_false] at hb ⊢;rcases hb with e | e | e | e <;> simp [e])
 have fin:∀h',(∀c o,c∉[a.z,a.TO,a.i1,a.i2]->s.heap.get? c=some o->h'.get? c=some o)->Q none { s with heap:=h' }:=λh' up=>hQ _ (I.moved (g':=s.gens) (d':=s.drawn) (t':=s.toks) fx up I.bare) up
 obtain ⟨⟨c,d,z0⟩,z4⟩:=zst;rcases z4 with z1 | ⟨T,b1,o,z1,z2,z3⟩
 ·have D:=yS z1 pt z0 j1 j2 pu.isList pw.isList O.tt O.ii;refine wpAny_pyNext_zip_end hh D z1 pt z0 j1 j2 pu.isList pw.isList (.inl none1) λh' hk=>fin h' λc o hc e=>?_
  simp only[aE,aO,or_false,not_or] at hc;exact hk c o hc.1 hc.2.1 hc.2.2.1 hc.2.2.2 e
 ·have D:=yS z1 pt z0 j1 j2 pu.isList pw.isList O.tt O.ii;refine DZ hh D z1 z2 pt j1 pu.isList none1 λh' hk=>fin h' λc o hc e=>?_
  simp only[aE,aO,or_false,not_or] at hc;exact hk c o hc.1 hc.2.2.1 hc.2.2.2 e
theorem Es (hh:A'.handled=none) (O:a.Ok) (hz:xs.length<=sizeLine) (hl:ys.length=xs.length) (q1:bD X.K H1 l1 xs) (q2:bD X.K H1 l2 ys)
  (fin:∀s' H' ts acc c,Inv X pins σ H' s'->aF H1 H'->ig X pins H' a.S->s'.heap.get? a.S=some (lobj acc c)->cf ts acc->Paired (IT H') (xs.zip ys) ts->R (.ok (.ret .none)) s') :
  ∀(k i:Nat) (s:Shared) (H:Hp) (ts:List V) (acc:List Value) (c:Nat),xs.length - i=k->i<=xs.length->Ic X pins σ H1 a l1 l2 i H s->s.heap.get? a.S=some (lobj acc c)->cf ts acc->Paired (IT H) ((xs.zip ys).take i) ts →
   codeAny (model X.prog X.w) A' (.builtin "list.extend.loop" ⟨[.ref a.S,.ref a.z,.none],[]⟩) R s:=by
 have Sn:a.S∉[a.z,a.TO,a.i1,a.i2]:=λh=>by
  simp only[aE,aO,or_false] at h;rcases h with e | e | e | e
  ·exact O.Sz e
  ·exact O.STO e
  ·exact O.Si1 e
  ·exact O.Si2 e
 intro k
 induction k with
 | zero =>
  intro i s H ts acc c hk hi L gS rv prs;have e:i=xs.length:=by lia
  refine codeAny_builtin Kp ?_;rw[Around.under_plainId iK _]
  change wpAny _ A'.in1 (pyNext (Value.ref a.z) >>= _) _ _ s
  refine wpAny_bind (Eo hh O q1 q2 (by lia) L λs' I' up=>wpAny_pure (fin s' H ts acc c I' L.same (L.fps _ (by simp [Al.all])) (up _ _ Sn gS) rv ?_));rwa [aG (by rw[wZ];lia)] at prs
 | succ k ih =>
  intro i s H ts acc c hk hi L gS rv prs;have hlt:i < xs.length:=by lia
  have lt:=prs.length;have la:=rv.length;refine codeAny_builtin Kp ?_;rw[Around.under_plainId iK _]
  change wpAny _ A'.in1 (pyNext (Value.ref a.z) >>= _) _ _ s
  refine wpAny_bind (Ep O q1 q2 (x:=xs[i]) (y:=ys[i]'(by lia)) (by simp [hlt]) (by simp) L λs' L' up hT=>?_);have gS':=up _ _ Sn gS
  change wpAny _ A'.in1 (updateSeq a.S (·.push (Value.ref s.heap.objs.size)) >>= _) _ _ s'
  have small:acc.length<=sizeLine:=by
   rw[cQ,wZ] at lt
   lia
  refine wpAny_bind (wpAny_updateSeq gS' rfl (wpAny_pure ⟨plainId_quiet iK _,?_⟩) (by rw[aI];exact small) (by
   show (acc.toArray.push (Value.ref s.heap.objs.size)).size<=sizeLine+1
   rw[Array.size_push,aI]
   lia))
  have gS2:=iD gS' (λb=>b.push (Value.ref s.heap.objs.size));have e2:(acc.toArray.push (Value.ref s.heap.objs.size))=(acc++[Value.ref s.heap.objs.size]).toArray:=by simp
  rw[e2] at gS2;refine ih (i+1) _ (upd H s.heap.objs.size (.tup [xs[i],ys[i]'(by lia)])) (ts++[.ref s.heap.objs.size]) (acc++[.ref s.heap.objs.size]) _ (by lia) hlt (L'.push O (λb o hb e=>(Heap.get?_update_other _ _ (Ne.symm hb)).trans e) (Heap.size_update ..)) gS2 (rv.append (show cf [V.ref s.heap.objs.size] [Value.ref s.heap.objs.size] from .cons rfl .nil)) ?_;have zp:(xs.zip ys)[i]?=some (xs[i],ys[i]'(by lia)):=by simp [Kq,hlt]
  rw[take_snoc zp];exact (Paired.imp' (λ_ _ z=>z.same (aF.new hT)) prs).snoc ⟨_,rfl,aH⟩
theorem BF:typeLookup (.type "zip") "__len__"=pure Option.none:=by rw[typeLookup_type,builtinLookup_eq_fast];kernel_rfl
theorem Aw:typeLookup (.type "zip") "__length_hint__"=pure Option.none:=by rw[typeLookup_type,builtinLookup_eq_fast];kernel_rfl
theorem Er (hh:A'.handled=none) (O:a.Ok) (hz:xs.length<=sizeLine) (hl:ys.length=xs.length) (q1:bD X.K H1 l1 xs) (q2:bD X.K H1 l2 ys) (L:Ic X pins σ H1 a l1 l2 0 H s) (gS:s.heap.get? a.S=some (lobj [] 0)) (z0:IsZip s.heap a.z a.TI a.TO .none)
  (fin:∀s' H' ts acc c,Inv X pins σ H' s'->aF H1 H'->ig X pins H' a.S->s'.heap.get? a.S=some (lobj acc c)->cf ts acc->Paired (IT H') (xs.zip ys) ts->R (.ok (.ret .none)) s') :
  wpAny (model X.prog X.w) A'.in1 (Builtin.«list.__init__» ⟨[.ref a.S,.ref a.z],[]⟩) (λfl s'=>match fl with | .done f=>R (.ok f) s' | .again c'=>c'.quiet=true/\codeAny (model X.prog X.w) A' c' R s') (λe s'=>R (.error e) s') s:=by
 change wpAny _ A'.in1 (do let old <- Builtin.List.listItems (Value.ref a.S);Builtin.List.listUpdate (Value.ref a.S) (λ_=>#[]);letGo old.toList.reverse;Builtin.List.listExtendWith (Value.ref a.S) (Value.ref a.z) Value.none) _ _ s
 refine wpAny_bind ?_;unfold Builtin.List.listItems;refine wpAny_bind (wpAny_seqItems gS rfl (wpAny_pure ?_))
 change wpAny _ A'.in1 (updateSeq a.S (λ_=>#[]) >>= λ_=>letGo (#[]:Array Value).toList.reverse >>= λ_=>Builtin.List.listExtendWith (Value.ref a.S) (Value.ref a.z) Value.none) _ _ s
 refine wpAny_bind (wpAny_updateSeq gS rfl ?_);have g1:=iD gS (λ_=>(#[]:Array Value));obtain ⟨n1,g1⟩:∃n1,(s.heap.update a.S (Obj.mapSeq λ_=>(#[]:Array Value))).get? a.S=some (lobj [] n1):=⟨_,g1⟩;have L1:=L.push (h':=s.heap.update a.S (Obj.mapSeq λ_=>(#[]:Array Value))) O (λb o hb e=>(Heap.get?_update_other _ _ (Ne.symm hb)).trans e) (Heap.size_update ..);have z1:IsZip (s.heap.update a.S (Obj.mapSeq λ_=>(#[]:Array Value))) a.z a.TI a.TO .none:=(Heap.get?_update_other _ _ O.Sz).trans z0;refine wpAny_bind (wpAny_letGo ?_);unfold Builtin.List.listExtendWith;have ty:Shared.TypeIs { s with heap:=s.heap.update a.S (Obj.mapSeq λ_=>(#[]:Array Value)) } (.ref a.z) "zip":=⟨_,z1,rfl⟩;refine wpAny_bind (wpAny_typeOf ty ?_);have h1:Builtin.List.listSameRef (.ref a.S) (.ref a.z)=false:=by simp [Builtin.List.listSameRef,O.Sz]
 have h2:(Value.type "zip" == Value.type "list")=false:=by decide
 have h3:(Value.type "zip" == Value.type "tuple")=false:=by decide
 simp only[h1,h2,h3,Bool.or_false,fG,if_false];refine wpAny_bind (wpAny_pyIter_zip z1 (wpAny_bind (wpAny_holding ?_)));unfold Builtin.List.listLengthHint;refine wpAny_bind (wpAny_specialOf ty BF ?_)
 change wpAny _ A'.in1 (specialOf (Value.ref a.z) (Str.ofString "__length_hint__") >>= _) _ _ _
 refine wpAny_bind (wpAny_specialOf ty Aw (wpAny_pure ?_))
 change wpAny _ A'.in1 (rule "list.extend.makes-room" >>= λ_=>Builtin.List.listTouch (Value.ref a.S) >>= λ_=>again (.builtin "list.extend.loop" ⟨[Value.ref a.S,Value.ref a.z,Value.none],[]⟩)) _ _ _
 refine wpAny_bind (wpAny_rule (wpAny_bind ?_))
 change wpAny _ A'.in1 (updateSeq a.S (·.push Value.none) >>= λ_=>updateSeq a.S (·.pop)) _ _ _
 refine wpAny_bind (wpAny_updateSeq g1 rfl ?_);have g2:=iD g1 (λb=>b.push Value.none);obtain ⟨n2,g2⟩:∃n2,((s.heap.update a.S (Obj.mapSeq λ_=>(#[]:Array Value))).update a.S (Obj.mapSeq λb=>b.push Value.none)).get? a.S=some (lobj [Value.none] n2):=⟨_,g2⟩;have L2:=L1.push (h':=(s.heap.update a.S (Obj.mapSeq λ_=>(#[]:Array Value))).update a.S (Obj.mapSeq λb=>b.push Value.none)) O (λb o hb e=>(Heap.get?_update_other _ _ (Ne.symm hb)).trans e) (Heap.size_update ..);refine wpAny_updateSeq g2 rfl ?_ (fW rfl);have g3:=iD g2 (λb=>b.pop);have L3:=L2.push (h':=((s.heap.update a.S (Obj.mapSeq λ_=>(#[]:Array Value))).update a.S (Obj.mapSeq λb=>b.push Value.none)).update a.S (Obj.mapSeq λb=>b.pop)) O (λb o hb e=>(Heap.get?_update_other _ _ (Ne.symm hb)).trans e) (Heap.size_update ..);exact wpAny_pure ⟨plainId_quiet iK _,Es hh O hz hl q1 q2 fin _ 0 _ H [] [] _ rfl (bo _) L3 g3 .nil .nil⟩
end
section
variable {X:Cx}
theorem IY (n:Nat):Al.Ok ⟨n+4,n+2,n+3,n,n+1,n+5,n+5+1⟩:=by
 have ne:∀p q:Nat,p≠q->@Ne Addr p q:=λ_ _ h=>h
 refine ⟨ne (n+2) (n+3) (by lia),ne n (n+1) (by lia),ne (n+5) (n+4) (by lia),ne (n+5) (n+2) (by lia),ne (n+5) (n+3) (by lia),ne (n+5) n (by lia),ne (n+5) (n+1) (by lia),λb hb=>?_⟩;have hb':b∈[n+4,n+2,n+3,n,n+1,n+5]:=hb;show @LT.lt Nat instLTNat b (n+5+1)
 simp only[aE,aO,or_false] at hb';rcases hb' with e | e | e | e | e | e <;> (rw[e];exact bf (dA _) (by lia))
def Az (K:FG9) (ta:TA):TE:=λσ H Q=>ta σ H λvs H1=>∃(l1 l2:Addr) (xs ys:List V),vs=[.ref l1,.ref l2]/\bD K H1 l1 xs/\bD K H1 l2 ys/\ys.length=xs.length /\
 ∀L ts H',aF H1 H'->H1 L=none->H' L=some (.lst ts)->Paired (IT H') (xs.zip ys) ts->Q (.ref L) H'
theorem BU {e1 e2:Expr} {ta:TA} {p p2 pos pos2:Pos} (hg:Gl X "list") (hm:X.mg "list"=none) (hg2:Gl X "zip") (hm2:X.mg "zip"=none) (ha:PA X [e1,e2] ta) (hc:X.calm=true:=by rfl)
  (hs:starEach [e1,e2] X.env=[(false,eval e1 X.env),(false,eval e2 X.env)]:=by rfl) (hs2:starEach [e2] X.env=[(false,eval e2 X.env)]:=by rfl)
  (hs3:starEach [Expr.Call (.Name "zip" p2) [e1,e2] [] pos2] X.env=[(false,eval (.Call (.Name "zip" p2) [e1,e2] [] pos2) X.env)]:=by rfl) :
  PE X (.Call (.Name "list" p) [.Call (.Name "zip" p2) [e1,e2] [] pos2] [] pos) (Az X.K ta):=by
 intro pins s σ H Q I h;refine wpAny_Call_Name_kw (ib I hg hm boot_list ?_);refine PyProof.Rows.callWith_type1 ?_ (by rw[hs3];rfl) rfl;rw[hs3];show wpAny _ _ (spliced ((false,eval (.Call (.Name "zip" p2) [e1,e2] [] pos2) X.env) :: [])) _ _ s
 refine Calls.spliced_cons ?_;refine Call_ (ib I hg2 hm2 boot_zip (PyProof.Rows.callWith_type1 (eJ (ha pos2 pins s σ H _ I h) λus s1 ⟨vs,H1,I1,r1,q1⟩=>?_) (by rw[hs,hs2]) (by rw[hs2];rfl)));obtain ⟨l1,l2,xs,ys,e,qx,qy,hl,q⟩:=q1;subst e;obtain ⟨u,v,rfl,ru,rv⟩:=vals2 r1;cases ru;cases rv;obtain ⟨us,rx,px,hz⟩:=I1.list qx;obtain ⟨ws,ry,py,_⟩:=I1.list qy;refine call_zip_2 px.isList py.isList λh' a1 a2 a3 a4 a5 a6 hk=>?_
 refine Calls.spliced_nil ?_;have I2:Inv X pins σ H1 { s1 with heap:=h' }:=I1.kept (t':=s1.toks) hk;have up:∀b o,h'.get? b=some o->(h'.push { cls:=.type "list",data:=.seq #[] }).get? b=some o:=λb o e=>Heap.get?_push_of_some _ e
 have O:Al.Ok ⟨s1.heap.objs.size+4,s1.heap.objs.size+2,s1.heap.objs.size+3,s1.heap.objs.size,s1.heap.objs.size+1,h'.objs.size,h'.objs.size+1⟩:=by
  rw[a6];exact IY s1.heap.objs.size
 have old:∀b∈(Al.mk (s1.heap.objs.size+4) (s1.heap.objs.size+2) (s1.heap.objs.size+3) s1.heap.objs.size (s1.heap.objs.size+1) h'.objs.size (h'.objs.size+1)).all,s1.heap.objs.size<=b:=λb hb=>by
  rw[a6] at hb;simp only[Al.all,aE,aO,or_false] at hb;rcases hb with rfl | rfl | rfl | rfl | rfl | rfl <;> first | exact uh _ _ | exact ao _
 have gS:(h'.push { cls:=.type "list",data:=.seq #[] }).get? h'.objs.size=some (lobj [] 0):=Heap.get?_push_size _ rfl;refine callType_codes (Q₁:=λob t=>ob=.ref h'.objs.size/\t={ s1 with heap:=h'.push { cls:=.type "list",data:=.seq #[] } }) PySem.F.called_list (PySem.F.typeCall_list_1 _) PySem.F.entry_list_init (code_list_new _ ⟨rfl,rfl⟩) λob t ht=>?_
 obtain ⟨rfl,rfl⟩:=ht;refine ⟨⟨_,gS,rfl⟩,PySem.F.args_list_init_2 _ _,?_⟩
 have L:Ic X pins σ H1 ⟨s1.heap.objs.size+4,s1.heap.objs.size+2,s1.heap.objs.size+3,s1.heap.objs.size,s1.heap.objs.size+1,h'.objs.size,h'.objs.size+1⟩ l1 l2 0 H1 { s1 with heap:=h'.push { cls:=.type "list",data:=.seq #[] } } :=
  ⟨I2.kept (t':=s1.toks) up,aF.refl _,λb hb=>I1.fpOk (old b hb) (I1.hok.fresh (old b hb)),by rw[Heap.size_push];exact ao _,⟨⟨_,_,up _ _ a3⟩,.inl (up _ _ a1)⟩,up _ _ a2,a4.at λo e=>up _ o e,a5.at λo e=>up _ o e⟩
 refine Er (A':=X.A.in1) (I.ok.hd hc) O hz hl qx qy L gS (up _ _ a1) λs' H' ts acc c I' sm fS gS' vs' prs=>⟨rfl,?_⟩
 have nS:H1 h'.objs.size=none:=I1.hok.fresh (old _ (by simp [Al.all]));have lt:=prs.length;rw[wZ] at lt;exact ⟨.ref h'.objs.size,_,I'.track (o:=.lst ts) fS ⟨by lia,acc,c,vs',gS'⟩,rfl,q _ ts _ (sm.trans (aF.new fS.1)) nS aH (Paired.imp' (λ_ _ z=>z.same (aF.new fS.1)) prs)⟩
end
end L2
namespace Nm
def sI:List Int->Int->Int
 | [],m=>m
 | b :: r,m=>sI r (m*(b / g m b))
theorem qJ (hm:0 < m) (hb:0 < b):0 < m*(b / g m b):=gQ hm (z7 (t:=m) hb)
theorem zV:b∣m*(b / g m b):=by
 have h1:=vN m b;refine ⟨lo m b,?_⟩;have h2:b / g m b*g m b=b:=sN m b
 calc m*(b / g m b)=lo m b*g m b*(b / g m b):=by rw[h1]
  _=lo m b*(b / g m b*g m b):=by rw[cY,d4 (g m b)]
  _=b*lo m b:=by rw[h2,d4]
theorem vP:∀{bs:List Int} {m:Int},0 < m->(∀b∈bs,0 < b)->0 < sI bs m
 | [],_,hm,_=>hm
 | b :: r,m,hm,h=>vP (bs:=r) (qJ hm (h b cM)) λc hc=>h c (bF _ hc)
theorem Bc:∀{bs:List Int} {m:Int},m∣sI bs m
 | [],_=>DD _
 | b :: r,m=>Int.dvd_trans (Int.dvd_mul_right m _) (Bc (bs:=r))
theorem A9:∀{bs:List Int} {m b:Int},b∈bs->b∣sI bs m
 | c :: r,m,b,h=>by
  rcases aE.mp h with rfl | h
  ·exact Int.dvd_trans zV (Bc (bs:=r))
  ·exact A9 (bs:=r) h
end Nm
namespace L2
open PySem PySem.Spec PyProof.Rows Nm
def Am (K:FG9) (H:Hp) (p:Addr) (ns:List (Int×Int)):Prop:=∃xs,H p=some (.lst xs)/\Paired (λn x=>Bw K H x n) ns xs
theorem Am.same {K:FG9} (h:Am K H p ns) (e:aF H H'):Am K H' p ns:=by obtain ⟨xs,g,q⟩:=h;exact ⟨xs,e _ _ g,Paired.imp' (λ_ _ z=>e.num z) q⟩
def A0 (K:FG9) (T:String):V->Hp->VK->Prop:=λx H Q=>DT K T x H Q\/∃a xs b,x=.ref a/\jG K H a xs/\PySem.W.kitOne K (.type "tuple") (.type T)=some b/\Q (.bl b) H
theorem yc:∀{bs:List Int} {m b:Int},sI (bs++[b]) m=sI bs m*(b / g (sI bs m) b)
 | [],_,_=>rfl
 | c :: r,m,b=>yc (bs:=r)
def dW (ns:List (Int×Int)) (B:Int):List Int:=ns.map λn=>n.1*(B / n.2)
def eQ (ns:List (Int×Int)):Int:=sI (ns.map (·.2)) 1
def FI (ns ms:List (Int×Int)):Int:=(List.zipWith (λx y=>x*y) (dW ns (eQ ns)) (dW ms (eQ ms))).sum
theorem nY (h:n∈ns):n.2∣eQ ns:=A9 (ay.mpr ⟨n,h,rfl⟩)
theorem BQ {K:FG9} (h:ta σ H λvs H1=>∃(l1 l2:Addr) (xs ys:List V),vs=[.ref l1,.ref l2]/\bD K H1 l1 xs/\bD K H1 l2 ys/\ys.length=xs.length /\
 ∀L ts H',aF H1 H'->H1 L=none->H' L=some (.lst ts)->Paired (IT H') (xs.zip ys) ts->Q (.ref L) H'):Az K ta σ H Q:=h
theorem Mb (hb:0 < b) (h:Sz k b):Sz k (g m b):=h.le (by
 have h1:(g m b).natAbs=Int.gcd m b:=by unfold g;simp
 rw[h1];exact fU (by lia) (by have:=dQ (a:=m) (b:=b);exact dw.mpr this |> λz=>by simpa using z))
theorem F5 {ts us:List Int} {i:Nat} (h:((ts.map V.int).zip (us.map V.int))[i]?=some pq):∃t u,ts[i]?=some t/\us[i]?=some u/\pq=(.int t,.int u):=by
 rw[Kq,aD,aD] at h;obtain ⟨h1,h2⟩:=h;cases e1:ts[i]? with
 | none=>rw[e1] at h1;cases h1
 | some t =>
  cases e2:us[i]? with
  | none=>rw[e2] at h2;cases h2
  | some u =>
   rw[e1] at h1;rw[e2] at h2;refine ⟨t,u,rfl,rfl,?_⟩;cases pq;simp at h1 h2;rw[h1,h2]
def DO (K:FG9):Sp:=λvs H Q _=>∃x n,vs=[x]/\Bw K H x n/\rJ n/\∀H',aF H H'->Q (.bl true) H'
inductive rQ (K:FG9) (vs:List V) (H:Hp) (Q:VK) (E9:XK):Prop
 | mk (p:Addr) (ns:List (Int×Int)):vs=[.ref p,.int ns.length]->Am K H p ns->ns.length<=1000->(∀n∈ns,rJ n)->(∀H',aF H H'->Q (.bl true) H')->rQ K vs H Q E9
theorem oq {X:Cx} {a:Expr} {ta:TE} {pos:Pos} {c:Str} {T:String} {p p2:Pos} (hg:Gl X "isinstance") (hm:X.mg "isinstance"=none) (hb:bootBuiltins c=some (.type T)) (hmc:X.mg c=none) (ha:PE X a ta) (hgc:Gl X c:=by rfl) (hn:c≠"__name__":=by decide)
  (hd:(c == ("__debug__":Str))=false:=by decide) (he:starEach [a,.Name c p2] X.env=[(false,eval a X.env),(false,eval (.Name c p2) X.env)]:=by rfl)
  (hpl:(backTo pos (starEach [.Name c p2] X.env)).any (·.1)=false:=by rfl) (he2:starEach [.Name c p2] X.env=[(false,eval (.Name c p2) X.env)]:=by rfl):PE X (.Call (.Name "isinstance" p) [a,.Name c p2] [] pos) (LO (A0 X.K T) ta):=by
 intro pins s σ H Q I h;refine wpAny_Call_Name_kw (ib I hg hm PyProof.Rows.boot_isinstance ?_);have hA:PA X [a,.Name c p2] (mV ta (mV (tC (.ty T)) DH)):=ae ha (ae (CY hgc hmc hb rfl hn hd) ai he2) (by rw[he,he2])
 have hq:mV ta (mV (tC (.ty T)) DH) σ H (λvs H1=>∃x,vs=[x,.ty T]/\A0 X.K T x H1 Q):=by
  show ta σ H λx H1=>∃x',[x,V.ty T]=[x',V.ty T]/\A0 X.K T x' H1 Q
  have e:(λx H1=>∃x',[x,V.ty T]=[x',V.ty T]/\A0 X.K T x' H1 Q)=λx H1=>A0 X.K T x H1 Q:=by
   funext x H1;apply propext;constructor
   ·rintro ⟨x',e,q⟩;cases e;exact q
   ·intro q;exact ⟨x,rfl,q⟩
  rw[e];exact h
 refine PyProof.Rows.callWith_builtin1 (eJ (hA pos pins s σ H _ I hq) λus s1 ⟨vs,H1,I1,r1,x,e,q1⟩=>?_) (by rw[he,he2]) hpl;subst e;obtain ⟨u,w',rfl,ru,rt⟩:=vals2 r1;cases rt;rcases q1 with ⟨t,bb,ty,ek,q⟩ | ⟨ad,xs,bb,rfl,hs,ek,q⟩
 ·exact ye I1 ru ty ek λtk=>⟨.bl bb,H1,I1.tok tk,rfl,q⟩
 ·cases ru;obtain ⟨its,_,⟨o,g1,g2,_⟩,_⟩:=I1.tuple hs;exact cN PySem.W.kitx_tuple I1.kIn ⟨o,g1,g2⟩ ek (λz=>nomatch z) λtk=>⟨.bl bb,H1,I1.tok tk,rfl,q⟩
theorem zw (h:H l=some (.lst [x])) (hk:k<=1000) (q:∀p H',aF H H'->H p=none->H' p=some (.lst (List.replicate k x))->Q (.ref p) H'):La (.ref l) (.int k) H Q :=
 ⟨l,k,[x],rfl,rfl,h,by lia,by lia,aL (bc (by simp;lia)),λp hp=>q p _ (aF.new hp) hp (by rw[aH];simp)⟩
theorem FO {k:Nat} (h:k<=xs.length):oE xs none (some (k:Int))=xs.take k:=by
 unfold oE;rw[HT.vb,HT.zv,Nat.min_eq_left h];simp
theorem wa {k:Nat}:oE xs (some (k:Int)) none=xs.drop k:=by
 unfold oE;rw[HT.vb,HT.zv];by_cases h:k<=xs.length
 ·rw[Nat.min_eq_left h,aG (by simp)]
 ·rw[Nat.min_eq_right (by lia),j6 (by lia),j6 (by lia)];simp
theorem js {α β:Type} {F:α->β->Prop} {x:α} {y:β} (h:F x y):∀m:Nat,Paired F (List.replicate m x) (List.replicate m y)
 | 0=>.nil
 | m+1=>.cons h (js h m)
theorem eE (h:a < n):Ej n (a:Int)=some a:=by
 unfold Ej;rw[if_pos (by lia),if_pos (by lia),Int.toNat_natCast]
theorem FN {k:Nat}:oE xs none (some (k:Int))=xs.take k:=by
 by_cases h:k<=xs.length
 ·exact FO h
 ·unfold oE;rw[HT.vb,HT.zv,Nat.min_eq_right (by lia),aG (by simp),aG (by lia)];rfl
theorem nH {α β:Type} {F:α->β->Prop}:∀{l1:List α} {l2:List β} (_:Paired F l1 l2) (k:Nat),Paired F (l1.take k) (l2.take k)
 | _,_,.nil,k=>by simp;exact .nil
 | _,_,.cons h r,0=>.nil
 | _,_,.cons h r,k+1=>.cons h (nH r k)
def Hr (K:FG9):List V->Hp->VK->Prop:=λxs H Q=>∃p ys,xs=[.ref p]/\(bD K H p ys\/jG K H p ys)/\∀l,H l=none->Q (.ref l) (upd H l (.lst ys))
theorem iB (K:FG9) (hK:X.K=K):oi X (.type "list") (Hr K):=by subst hK;exact rg
theorem aF.none (s:aF H H') (h:H' l=Option.none):H l=Option.none:=by
 cases e:H l with
 | none=>rfl
 | some o=>have:=s _ _ e;rw[h] at this;cases this
def IV (K:FG9) (H:Hp) (p:Addr) (rows:List (List (Int×Int))):Prop:=∃xs,H p=some (.lst xs)/\Paired (λns x=>∃q,x=V.ref q/\Am K H q ns) rows xs
theorem Ez (h:b.natAbs<=1000000):Sz 20 b:=aV h (by decide)
theorem cF.none (u:cF b H H') (B:fR H' b) (h:H' l=Option.none):H l=Option.none:=by
 cases e:H l with
 | none=>rfl
 | some o =>
  by_cases z:l=b
  ·obtain ⟨_,_,_,_,_,e2,_⟩:=B;rw[<- z,h] at e2;cases e2
  ·have:=u.1 l o e z;rw[h] at this;cases this
inductive uS (K:FG9) (vs:List V) (H:Hp) (Q:VK) (E9:XK):Prop
 | mk (p:Addr) (rows:List (List (Int×Int))) (m:Nat):vs=[.ref p,.int rows.length,.int m]->IV K H p rows->rows.length<=1000->m<=1000->((∀ns∈rows,ns.length=m/\∀n∈ns,rJ n))->(∀H',aF H H'->Q (.bl true) H')->uS K vs H Q E9
end L2
namespace Nm
def nm (q:Rat):Int×Int:=(q.num,(q.den:Int))
theorem eV (q:Rat):0 < (nm q).2:=by have:=q.den_pos;show 0 < (q.den:Int);lia
theorem zR (q:Rat):Int.gcd (nm q).1 (nm q).2=1:=q.reduced
theorem JR (h:nm p=nm q):p=q:=by
 have h1:p.num=q.num:=congrArg Prod.fst h;have h2:(p.den:Int)=q.den:=congrArg Prod.snd h;exact Rat.ext h1 (by lia)
theorem i8 (q:Rat):(q.num:Rat)=q*(q.den:Rat):=by
 have h:=Rat.num_divInt_den q;rw[Rat.divInt_eq_div] at h
 have hd:((q.den:Int):Rat)≠0:=by
  intro z;have z:=ug.mp z;have:=q.den_pos
  lia
 have e:((q.den:Int):Rat)=(q.den:Rat):=aY _
 calc (q.num:Rat)=(q.num:Rat) / ((q.den:Int):Rat)*((q.den:Int):Rat):=(Rat.div_mul_cancel hd).symm
  _=q*(q.den:Rat):=by rw[h,e]
theorem Lj (hb:0 < b) (hg:Int.gcd a b=1) (e:q*(b:Rat)=(a:Rat)):(a,b)=nm q:=by
 have h1:a*(q.den:Int)=q.num*b:=by
  apply cZ.mp;rw[aM,aM,<- e,i8,aY];grind
 obtain ⟨e1,e2⟩:=uniq hb (eV q) hg (zR q) h1;exact Prod.ext e1 e2
theorem mC {t b:Int} (hb:0 < b) (e:q*(b:Rat)=(t:Rat)):(lo t b,hi t b)=nm q:=by
 refine Lj (z7 hb) (vL (by lia)) ?_;have h:=vM t b;have hb':(b:Rat)≠0:=λz=>by have:=ug.mp z;lia
 have h2:((lo t b:Int):Rat)*(b:Rat)=(t:Rat)*((hi t b:Int):Rat):=by rw[<- aM,h,aM]
 rw[<- e] at h2;have h3:(q*((hi t b:Int):Rat) - ((lo t b:Int):Rat))*(b:Rat)=0:=by grind
 rcases Rat.mul_eq_zero.mp h3 with h4 | h4
 ·grind
 ·exact absurd h4 hb'
def Fr (M V:Nat) (q:Rat):Prop:=∃z:Int,q*(M:Rat)=(z:Rat)/\z.natAbs<=V*M
theorem Fr.mono (h:Fr M V q) (l:V<=V'):Fr M V' q:=by obtain ⟨z,e,b⟩:=h;exact ⟨z,e,aj b (aB _ l)⟩
theorem Fr.scale (h:Fr M V q) (k:Nat):Fr (M*k) V q:=by
 obtain ⟨z,e,b⟩:=h;refine ⟨z*k,?_,?_⟩
 ·rw[wW,aM,<- e,aY,Rat.mul_assoc]
 ·rw[dI,cB,<- cb];exact aB _ b
theorem Fr.scaleL (h:Fr M V q) (k:Nat):Fr (k*M) V q:=by rw[cp];exact h.scale k
theorem Fr.dvd (h:Fr M V q) (d:M∣N):Fr N V q:=by obtain ⟨k,rfl⟩:=d;exact h.scale k
theorem Fr.add (h:Fr M V p) (h':Fr M W q):Fr M (V+W) (p+q):=by
 obtain ⟨z,e,b⟩:=h;obtain ⟨z',e',b'⟩:=h';refine ⟨z+z',by rw[wY,<- e,<- e',Rat.add_mul],?_⟩;rw[Nat.add_mul];have:=Int.natAbs_add_le z z'
 lia
theorem Fr.neg (h:Fr M V q):Fr M V (-q):=by
 obtain ⟨z,e,b⟩:=h;exact ⟨-z,by rw[dj,<- e,Rat.neg_mul],by rw[pC];exact b⟩
theorem Fr.mul (h:Fr M V p) (h':Fr N W q):Fr (M*N) (V*W) (p*q):=by
 obtain ⟨z,e,b⟩:=h;obtain ⟨z',e',b'⟩:=h';refine ⟨z*z',?_,?_⟩
 ·rw[wW,aM,<- e,<- e'];grind
 ·rw[dI]
  calc z.natAbs*z'.natAbs<=(V*M)*(W*N):=aP b b'
   _=V*W*(M*N):=by rw[cb,Nat.mul_left_comm M,<- cb]
theorem Fr.zero:Fr M V 0:=⟨0,by simp,by simp⟩
theorem Fr.int {i:Int} (h:i.natAbs<=V):Fr M V (i:Rat):=⟨i*M,by rw[aM,aY],by rw[dI,cB];exact aB _ h⟩
theorem Fr.den (h:Fr M V q):(q.den:Int)∣(M:Int):=by
 obtain ⟨z,e,b⟩:=h
 have h1:q.num*(M:Int)=z*(q.den:Int):=by
  apply cZ.mp;rw[aM,aM,<- e,i8,aY,aY];grind
 have h2:(q.den:Int)∣q.num*(M:Int):=⟨z,by rw[h1,d4]⟩;exact mD (by rw[iG];exact zR q) h2
theorem Fr.den_le (h:Fr M V q) (hM:0 < M):q.den<=M:=fU hM (jH.mp h.den)
theorem Fr.num_le (h:Fr M V q) (hM:0 < M):q.num.natAbs<=V*M:=by
 have hd:=h.den;obtain ⟨z,e,b⟩:=h;obtain ⟨k,hk⟩:=jH.mp hd;have hk0:k≠0:=λz=>by rw[z,Nat.mul_zero] at hk;lia
 have h1:z=q.num*(k:Int):=by
  apply cZ.mp;rw[aM,<- e,i8,aY,hk,wW];grind
 rw[h1] at b;exact aj (ko (by lia)) b
theorem Fr.own (q:Rat) (h:q.num.natAbs<=V):Fr q.den V q:=⟨q.num,(i8 q).symm,aj h (c6 _ q.den_pos)⟩
theorem Fr.sz (h:Fr M V q) (hM:0 < M) (h1:M<=2^k) (h2:V<=2^j):Sz (j+k+1) (nm q).1/\Sz (k+1) (nm q).2:=by
 constructor
 ·show q.num.natAbs < 2^(j+k+1)
  have h3:=h.num_le hM;have h4:V*M<=2^j*2^k:=aP h2 h1;rw[fE,bI];have:=Nat.two_pow_pos (j+k);rw[bI] at this
  lia
 ·show (q.den:Int).natAbs < 2^(k+1)
  have h3:=h.den_le hM;rw[cB,fE];have:=Nat.two_pow_pos k
  lia
theorem Fr.sum {M V:Nat}:∀{l:List Rat},(∀x∈l,Fr M V x)->Fr M (l.length*V) l.sum
 | [],_=>by simp;exact Fr.zero
 | x :: r,h=>by
  rw[List.sum_cons,bq,j3,uF];exact (h x (.head _)).add (Fr.sum λy hy=>h y (.tail _ hy))
def eh (xs ys:List Rat):Rat:=(List.zipWith (λx y=>x*y) xs ys).sum
theorem Fr.dot (h:∀x∈xs,Fr M V x) (h':∀y∈ys,Fr N W y):Fr (M*N) (xs.length*(V*W)) (eh xs ys):=by
 have q:=Fr.sum (M:=M*N) (V:=V*W) (l:=List.zipWith (λx y=>x*y) xs ys) λz hz=>by
  obtain ⟨i,hi,e⟩:=bK hz;rw[mR] at e;rw[<- e];exact (h _ (aZ _)).mul (h' _ (aZ _))
 exact q.mono (aB _ (by rw[cR];lia))
theorem ym (xs ys:List Rat):eh xs ys=eh ys xs:=by
 unfold eh;rw[List.zipWith_comm];congr 2;funext a b;exact iC ..
theorem ux:∀{bs:List Int} {m M:Int},0 < m->m∣M->(∀b∈bs,0 < b/\b∣M)->sI bs m∣M
 | [],_,_,_,h,_=>h
 | b :: r,m,M,hm,h,hb=>by
  have b1:=hb b cM;refine ux (bs:=r) (qJ hm b1.1) ?_ λc hc=>hb c (bF _ hc)
  have gp:0 < g m b:=vS (by lia);have e1:=vN m b;have e2:=sN m b;obtain ⟨u,hu⟩:=h;obtain ⟨v,hv⟩:=b1.2
  have h3:lo m b*u=hi m b*v:=by
   apply pE (show g m b≠0 by lia)
   calc lo m b*u*g m b=lo m b*g m b*u:=by rw[cY,d4 u,<- cY]
    _=m*u:=by rw[e1]
    _=M:=hu.symm
    _=b*v:=hv
    _=hi m b*g m b*v:=by rw[e2]
    _=hi m b*v*g m b:=by rw[cY,d4 (g m b),<- cY]
  have h4:hi m b∣lo m b*u:=⟨v,h3⟩;have h5:hi m b∣u:=mD (by rw[iG];exact vL (by lia)) h4;obtain ⟨w,hw⟩:=h5;refine ⟨w,?_⟩;show M=m*hi m b*w
  rw[hu,hw,cY]
theorem Ab (hb:0 < b) (d:a∣b) (h:Sz k b):Sz k a:=h.le (fU (by lia) (dw.mpr d))
end Nm
namespace Nm
def Dr (W:Nat) (x:Rat):Prop:=x.num.natAbs<=W/\x.den<=W
def xU:List Nat->Nat
 | []=>1
 | a :: r=>a*xU r
theorem xS:∀{l:List Nat},(∀a∈l,0 < a)->0 < xU l
 | [],_=>Nat.one_pos
 | a :: r,h=>cD (h a (.head _)) (xS λb hb=>h b (.tail _ hb))
theorem xT:∀{l:List Nat} {a:Nat},a∈l->a∣xU l
 | b :: r,a,h=>by
  rcases aE.mp h with rfl | h
  ·exact Nat.dvd_mul_right ..
  ·exact Nat.dvd_trans (xT h) (Em ..)
theorem A2 {k:Nat}:∀{l:List Nat},(∀a∈l,a<=2^k)->xU l<=2^(k*l.length)
 | [],_=>by simp [xU]
 | a :: r,h=>by
  rw[bq,Nat.mul_succ,bI,cp (2^(k*r.length))];exact aP (h a (.head _)) (A2 λb hb=>h b (.tail _ hb))
def GF (M V:Nat) (rows:LR9):Prop:=∀xs∈rows,∀x∈xs,Fr M V x
def d5 (rows:LR9) (w:Nat):LR9:=(List.range w).map λj=>rows.map λxs=>xs.getD j 0
def fq (one other:LR9) (w:Nat):LR9:=one.map λxs=>(d5 other w).map λys=>eh ys xs
theorem fL:(d5 rows w).length=w:=by simp [d5]
theorem xD:∀ys∈d5 rows w,ys.length=rows.length:=λys hy=>by
 obtain ⟨j,_,rfl⟩:=ay.mp hy;exact ag ..
end Nm
namespace L2
open PySem PySem.Spec PyProof.Rows Nm
theorem cF.sqt {K:FG9} (u:cF b H H') (B:fR H b) (h:jG K H a xs):jG K H' a xs:=by
 rcases h with (h | ⟨o,h⟩) | h
 ·exact .inl (.inl (u.tup B h))
 ·exact .inl (.inr ⟨o,u.other (λz=>by obtain ⟨_,_,_,_,_,e,_⟩:=B;rw[z,e] at h;cases h) h⟩)
 ·exact .inr h
theorem EC {K:FG9} (h:jG K H a xs) (hl:H l=some (.lst ys)):jG K (upd H l o) a xs:=by
 rcases h with (h | ⟨o,h⟩) | h
 ·exact .inl (.inl (by rw[a7 λz=>by rw[z,hl] at h;cases h];exact h))
 ·exact .inl (.inr ⟨o,by rw[a7 λz=>by rw[z,hl] at h;cases h];exact h⟩)
 ·exact .inr h
def bX (K:FG9) (H:Hp) (q:Rat) (x:V):Prop:=Bw K H x (nm q)
section
variable {K:FG9} {H H':Hp} {q:Rat} {x:V} {b l p:Addr} {qs:List Rat}
theorem bX.same (h:bX K H q x) (e:aF H H'):bX K H' q x:=e.num h
theorem bX.upto (h:bX K H q x) (u:cF b H H') (B:fR H b):bX K H' q x:=by obtain ⟨p,e,s⟩:=h;exact ⟨p,e,u.sqt B s⟩
theorem bX.updL (h:bX K H q x) (hl:H l=some (.lst ys)):bX K (upd H l o) q x:=by obtain ⟨p,e,s⟩:=h;exact ⟨p,e,EC s hl⟩
theorem bX.mk (h:H r=some (.tup [.int a,.int c])) (e:(a,c)=nm q):bX K H q (.ref r):=⟨r,rfl,by rw[<- e];exact jG.of h⟩
def dg (K:FG9) (H:Hp) (p:Addr) (qs:List Rat):Prop:=∃xs,H p=some (.lst xs)/\Paired (bX K H) qs xs
theorem dg.same (h:dg K H p qs) (e:aF H H'):dg K H' p qs:=by obtain ⟨xs,g,r⟩:=h;exact ⟨xs,e _ _ g,Paired.imp' (λ_ _ z=>z.same e) r⟩
theorem dg.upto (h:dg K H p qs) (u:cF b H H') (B:fR H b) (n:p≠b):dg K H' p qs:=by obtain ⟨xs,g,r⟩:=h;exact ⟨xs,u.other n g,Paired.imp' (λ_ _ z=>z.upto u B) r⟩
theorem dg.updL (h:dg K H p qs) (hl:H l=some (.lst ys)) (n:p≠l):dg K (upd H l o) p qs:=by obtain ⟨xs,g,r⟩:=h;exact ⟨xs,by rw[a7 n];exact g,Paired.imp' (λ_ _ z=>z.updL hl) r⟩
theorem nI {α β γ:Type} {F:α->β->Prop} {f:γ->α}:∀{l:List γ} {l2:List β},Paired (λc x=>F (f c) x) l l2->Paired F (l.map f) l2
 | _,_,.nil=>.nil
 | _,_,.cons r t=>.cons r (nI t)
theorem dg.rowK (h:dg K H p qs):Am K H p (qs.map nm):=by obtain ⟨xs,g,r⟩:=h;exact ⟨xs,g,nI (F:=λn x=>Bw K H x n) r⟩
def cA (K:FG9) (H0 H:Hp) (qs:List Rat) (x:V):Prop:=∃q,x=V.ref q/\H0 q=none/\dg K H q qs
def bg (K:FG9) (H0 H:Hp) (p:Addr) (rows:LR9):Prop:=∃xs,H p=some (.lst xs)/\Paired (cA K H0 H) rows xs/\V.ref p∉xs
theorem fz {rows:LR9} (h:∃H2,H2 p=none/\Paired (cA K H0 H2) rows ys):V.ref p∉ys:=λhm=>by
 obtain ⟨H2,e,pr⟩:=h;obtain ⟨qs,_,q,z,_,xs,g,_⟩:=cC pr hm;cases z;rw[e] at g;cases g
variable {H0:Hp} {rows:LR9}
theorem cA.same (h:cA K H0 H qs x) (e:aF H H'):cA K H0 H' qs x:=by obtain ⟨q,a,b,c⟩:=h;exact ⟨q,a,b,c.same e⟩
theorem cA.upto (h:cA K H0 H qs x) (u:cF b H H') (B:fR H b) (nb:H0 b≠none):cA K H0 H' qs x:=by obtain ⟨q,a,c,d⟩:=h;exact ⟨q,a,c,d.upto u B λz=>nb (by rw[<- z];exact c)⟩
theorem cA.weak (h:cA K H0 H qs x) (e:aF H1 H0):cA K H1 H qs x:=by obtain ⟨q,a,b,c⟩:=h;exact ⟨q,a,e.none b,c⟩
theorem bg.same (h:bg K H0 H p rows) (e:aF H H'):bg K H0 H' p rows:=by obtain ⟨xs,g,r,n⟩:=h;exact ⟨xs,e _ _ g,Paired.imp' (λ_ _ z=>z.same e) r,n⟩
theorem bg.upto (h:bg K H0 H p rows) (u:cF b H H') (B:fR H b) (n:p≠b) (nb:H0 b≠none):bg K H0 H' p rows:=by obtain ⟨xs,g,r,nn⟩:=h;exact ⟨xs,u.other n g,Paired.imp' (λ_ _ z=>z.upto u B nb) r,nn⟩
theorem bg.weak (h:bg K H0 H p rows) (e:aF H1 H0):bg K H1 H p rows:=by obtain ⟨xs,g,r,n⟩:=h;exact ⟨xs,g,Paired.imp' (λ_ _ z=>z.weak e) r,n⟩
theorem bg.gridK (h:bg K H0 H p rows):IV K H p (rows.map (List.map nm)):=by obtain ⟨xs,g,r,_⟩:=h;exact ⟨xs,g,nI (F:=λns x=>∃q,x=V.ref q/\Am K H q ns) (Paired.imp' (λ_ _ ⟨q,a,_,c⟩=>⟨q,a,c.rowK⟩) r)⟩
end
def C7:Kind Rat:=Lk.via nm (λ_ _ e=>JR e) (λK H x q=>bX K H q x) id
def C6:Kind (List Rat):=Fh C7
def zX:Kind (LR9):=Fh C6
theorem dg.kind {K:FG9} (h:dg K H p qs):C6.R K H (.ref p) qs:=by obtain ⟨xs,g,q⟩:=h;exact ⟨p,xs,rfl,bD.of g,q⟩
theorem bg.kind {K:FG9} (h:bg K H0 H p rows):zX.R K H (.ref p) rows:=by obtain ⟨xs,g,q,_⟩:=h;exact ⟨p,xs,rfl,bD.of g,Paired.imp' (λ_ _ ⟨q,a,_,c⟩=>by rw[a];exact c.kind) q⟩
def oa (x:Rat):Prop:=Sz 4000 (nm x).1/\Sz 4000 (nm x).2
def Fits (l:List Rat):Prop:=∃M V:Nat,0 < M/\M<=2^900/\V<=2^900/\∀x∈l,Fr M V x
theorem Fits.szn (h:Fits l) (hx:x∈l):oa x:=by
 obtain ⟨M,V,h0,h1,h2,h3⟩:=h;obtain ⟨a,b⟩:=(h3 x hx).sz h0 h1 h2;exact ⟨a.mono (by decide),b.mono (by decide)⟩
theorem Fits.ok (h:Fits l) (hx:x∈l):rJ (nm x):=⟨eV x,zR x,(h.szn hx).1.mono (by decide),(h.szn hx).2.mono (by decide)⟩
theorem Cm {M V:Nat} (h0:0 < M) (h1:M<=2^1800) (h2:V<=2^1810) (h:Fr M V x):oa x:=by
 obtain ⟨a,b⟩:=h.sz h0 h1 h2;exact ⟨a.mono (by decide),b.mono (by decide)⟩
theorem yY (h:oa x):rJ (nm x):=⟨eV x,zR x,h.1.mono (by decide),h.2.mono (by decide)⟩
inductive mY (K:FG9) (f:Rat->Rat->Rat) (vs:List V) (H:Hp) (Q:VK) (E9:XK):Prop
 | mk (u v:V) (x y:Rat):vs=[u,v]->bX K H x u->bX K H y v->oa x->oa y->(∀r H',aF H H'->bX K H' (f x y) (.ref r)->Q (.ref r) H')->mY K f vs H Q E9
section
variable {K:FG9} {vs:List V} {H:Hp} {Q:VK} {E:XK}
theorem BV (hf:∀x y:Rat,(f x y)*(((nm x).2*(nm y).2:Int):Rat)=((F (nm x).1 (nm x).2 (nm y).1 (nm y).2:Int):Rat)) (h:mY K f vs H Q E):CQ K F vs H Q E:=by
 obtain ⟨u,v,x,y,rfl,⟨p,rfl,hp⟩,⟨q,rfl,hq⟩,⟨s1,s2⟩,⟨s3,s4⟩,k⟩:=h;refine ⟨p,q,_,_,_,_,rfl,hp,hq,eV x,eV y,s1,s2,s3,s4,λr H' s g=>k r H' s (bX.mk g ?_)⟩;exact mC (gQ (eV x) (eV y)) (hf x y)
theorem lW (x:Rat):(((nm x).1:Int):Rat)=x*(((nm x).2:Int):Rat):=by
 show (x.num:Rat)=x*(((x.den:Nat):Int):Rat)
 rw[i8,aY]
theorem Dw (h:mY K (λx y=>x+y) vs H Q E):CQ K IM vs H Q E:=BV (λx y=>by
 unfold IM;rw[wY,aM,aM,aM,lW,lW];grind) h
theorem CG (h:mY K (λx y=>x - y) vs H Q E):CQ K FF vs H Q E:=BV (λx y=>by
 unfold FF;rw[wX,aM,aM,aM,lW,lW];grind) h
theorem C1 (h:mY K (λx y=>x*y) vs H Q E):CQ K FE vs H Q E:=BV (λx y=>by
 unfold FE;rw[aM,aM,lW,lW];grind) h
end
def Ct (M:Int) (ns:List (Int×Int)):Prop:=0 < M/\Sz 4400 M/\∀n∈ns,0 < n.2/\n.2∣M/\Sz 4400 n.1
theorem Ct.bot (h:Ct M ns):0 < eQ ns/\Sz 4400 (eQ ns):=by
 have hb:∀b∈ns.map (·.2),0 < b/\b∣M:=λb hb=>by
  obtain ⟨n,hn,rfl⟩:=ay.mp hb;exact ⟨(h.2.2 n hn).1,(h.2.2 n hn).2.1⟩
 exact ⟨vP (by decide) λb q=>(hb b q).1,Ab h.1 (ux (by decide) (Int.one_dvd _) hb) h.2.1⟩
inductive ED (K:FG9) (vs:List V) (H:Hp) (Q:VK) (E9:XK):Prop
 | mk (p:Addr) (bs:List Int) (M:Int):vs=[.ref p]->bD K H p (bs.map V.int)->0 < M->Sz 4400 M->((∀b∈bs,0 < b/\b∣M))->Q (.int (sI bs 1)) H->ED K vs H Q E9
inductive EE (K:FG9) (vs:List V) (H:Hp) (Q:VK) (E9:XK):Prop
 | mk (p:Addr) (ns:List (Int×Int)) (M:Int):vs=[.ref p]->Am K H p ns->ns.length<=1000->Ct M ns->(∀H',aF H H'->Q (.int (eQ ns)) H')->EE K vs H Q E9
inductive AG (K:FG9) (vs:List V) (H:Hp) (Q:VK) (E9:XK):Prop
 | mk (p:Addr) (ns:List (Int×Int)) (M:Int) (B:Int):vs=[.ref p,.int B]->Am K H p ns->ns.length<=1000->Ct M ns->0 < B->Sz 4400 B->(∀r H',H r=none->aF H H'->H' r=some (.lst ((dW ns B).map V.int))->Q (.ref r) H')->AG K vs H Q E9
theorem Ax (h:Ct M ns) (hB:0 < B) (sB:Sz 4400 B) (ht:t∈dW ns B):Sz 8800 t:=by
 obtain ⟨n,hn,rfl⟩:=ay.mp ht;have hp:=h.2.2 n hn
 have sq:Sz 4400 (B / n.2):=sB.le (by
  rw[Kr (by lia)];exact Nat.div_le_self ..)
 exact (hp.2.2.mul sq).mono (by lia)
theorem mT (h:(nm x).2∣B):(((nm x).1*(B / (nm x).2):Int):Rat)=x*(B:Rat):=by
 obtain ⟨k,rfl⟩:=h;have hp:=eV x;rw[Int.mul_ediv_cancel_left _ (by lia),aM,aM,lW];grind
theorem Bl {B C:Int}:∀{xs ys:List Rat},(∀x∈xs,(nm x).2∣B)->(∀y∈ys,(nm y).2∣C)->(((List.zipWith (λx y=>x*y) (dW (xs.map nm) B) (dW (ys.map nm) C)).sum:Int):Rat)=eh xs ys*((B:Rat)*(C:Rat))
 | [],ys,_,_=>by simp [dW,eh]
 | x :: xs,[],_,_=>by simp [dW,eh]
 | x :: xs,y :: ys,h1,h2=>by
  have ih:=Bl (B:=B) (C:=C) (xs:=xs) (ys:=ys) (λz hz=>h1 z (.tail _ hz)) (λz hz=>h2 z (.tail _ hz));have e1:=mT (h1 x (.head _));have e2:=mT (h2 y (.head _));have e3:(List.zipWith (λx y=>x*y) (dW ((x :: xs).map nm) B) (dW ((y :: ys).map nm) C)).sum=((nm x).1*(B / (nm x).2))*((nm y).1*(C / (nm y).2))+(List.zipWith (λx y=>x*y) (dW (xs.map nm) B) (dW (ys.map nm) C)).sum:=rfl;have e4:eh (x :: xs) (y :: ys)=x*y+eh xs ys:=rfl;rw[e3,e4,wY,aM,ih,e1,e2];grind
theorem HR (h1:0 < eQ (xs.map nm)) (h2:0 < eQ (ys.map nm)):(lo (FI (xs.map nm) (ys.map nm)) (eQ (xs.map nm)*eQ (ys.map nm)),hi (FI (xs.map nm) (ys.map nm)) (eQ (xs.map nm)*eQ (ys.map nm)))=nm (eh xs ys):=by
 refine mC (gQ h1 h2) ?_;unfold FI;rw[Bl (λx hx=>nY (ay.mpr ⟨x,hx,rfl⟩)) (λx hx=>nY (ay.mpr ⟨x,hx,rfl⟩)),aM]
inductive AE (K:FG9) (vs:List V) (H:Hp) (Q:VK) (E9:XK):Prop
 | mk (p:Addr) (w:Nat) (H0:Hp) (rows:LR9):vs=[.ref p,.int w]->bg K H0 H p rows->rows.length<=1000->w<=1000->(∀xs∈rows,xs.length=w)->(∀r H',H r=none->aF H H'->bg K H H' r (d5 rows w)->Q (.ref r) H')->AE K vs H Q E9
def j8 (m:Nat) (a:Int):List Rat:=(List.range m).map λ(i:Nat)=>if ((i:Nat):Int)=a then 1 else 0
def cT (m:Nat):LR9:=(List.range m).map λ(i:Nat)=>j8 m i
inductive AB (K:FG9) (vs:List V) (H:Hp) (Q:VK) (E9:XK):Prop
 | mk (m:Nat) (a:Int):vs=[.int m,.int a]->m<=1000->(∀r H',H r=none->aF H H'->dg K H' r (j8 m a)->Q (.ref r) H')->AB K vs H Q E9
def DK (K:FG9):Sp:=λvs H Q _=>∃m:Nat,vs=[.int m]/\m<=1000/\∀r H',H r=none->aF H H'->bg K H H' r (cT m)->Q (.ref r) H'
inductive uP (K:FG9) (vs:List V) (H:Hp) (Q:VK) (E9:XK):Prop
 | mk (b:Addr) (w:Nat):vs=[.ref b,.int w]->fR H b->1<=w->w<=1000000->(∀r x H',Dr (max w 6) x->bX K H' x (.ref r)->fR H' b->cF b H H'->Q (.ref r) H')->uP K vs H Q E9
inductive AN (K:FG9) (vs:List V) (H:Hp) (Q:VK) (E9:XK):Prop
 | mk (b:Addr) (m w:Nat):vs=[.ref b,.int m,.int w]->fR H b->m<=1000->1<=w->w<=1000000->(∀r xs H',H r=none->dg K H' r xs->xs.length=m->(∀x∈xs,Dr (max w 6) x)->fR H' b->cF b H H'->Q (.ref r) H')->AN K vs H Q E9
inductive AH (K:FG9) (vs:List V) (H:Hp) (Q:VK) (E9:XK):Prop
 | mk (p q:Addr) (xs ys:List Rat):vs=[.ref p,.ref q]->dg K H p xs->dg K H q ys->ys.length=xs.length->xs.length<=1000->(∀x∈xs,oa x)->(∀y∈ys,oa y)->(∀r H',H r=none->aF H H'->dg K H' r (List.zipWith (λx y=>x+y) xs ys)->Q (.ref r) H')->AH K vs H Q E9
inductive EF (K:FG9) (vs:List V) (H:Hp) (Q:VK) (E9:XK):Prop
 | mk (u:V) (q:Addr) (c:Rat) (ys:List Rat):vs=[u,.ref q]->bX K H c u->oa c->dg K H q ys->ys.length<=1000->(∀y∈ys,oa y)->(∀r H',H r=none->aF H H'->dg K H' r (ys.map λy=>c*y)->Q (.ref r) H')->EF K vs H Q E9
inductive uV (K:FG9) (vs:List V) (H:Hp) (Q:VK) (E9:XK):Prop
 | mk (p:Addr) (H0:Hp) (rows:LR9):vs=[.ref p]->bg K H0 H p rows->rows.length<=1000->(∀xs∈rows,xs.length<=1000)->(∀r H',H r=none->aF H H'->bg K H H' r rows->Q (.ref r) H')->uV K vs H Q E9
section
variable {K:FG9} {a:Addr} {xs:List V} {g:TG} {tf:TT} {te:TE} {Q:VK} {σ₀:St} {H:Hp} {α β:Type}
theorem cO {F:Hp->α->V->Prop} (G:Hp->β->V->Prop) (f:α->β) (hx:H a=some (.lst xs)) (pf:Paired (F H) as xs) (hl:as.length<=1000)
  (hF:∀{H H' c x},F H c x->aF H H'->F H' c x) (hG:∀{H H' c x},G H c x->aF H H'->G H' c x)
  (hs:∀(i:Nat) c x H' NY NN,as[i]?=some c->aF H H'->F H' c x->(∀y H2,aF H' H2->G H2 (f c) y->NY y H2)->mU σ₀ g tf te x H' NY NN)
  (hd:∀ys H' p,H p=none->aF H H'->H' p=some (.lst ys)->Paired (G H') (as.map f) ys->(∃H2,H2 p=none/\Paired (G H2) (as.map f) ys)->Q (.ref p) H'):oh (Ie K a) σ₀ g tf te Q H:=by
 have lx:=pf.length;refine cW (K:=K) (xs:=xs) (λi ys H'=>aF H H'/\Paired (G H') ((as.take i).map f) ys) (aL (bc (by lia))) ⟨aF.refl _,.nil⟩ (λi ys H' _ ⟨s,_⟩=>bD.of (s _ _ hx)) ?_ ?_
 ·rintro i x ys H' hx' hlen ⟨s,pr⟩;obtain ⟨c,ec,hc⟩:=cw pf hx';refine hs i c x H' _ _ ec s (hF hc s) λy H2 s2 gy=>⟨s.trans s2,?_⟩
  rw[take_snoc ec,bH];exact bP (Paired.imp' (λ_ _ z=>hG z s2) pr) (.cons gy .nil)
 ·rintro ys H' hy ⟨s,pr⟩ p hp;rw[aG (by lia)] at pr;exact hd ys _ p (s.none hp) (s.trans (aF.new hp)) aH (Paired.imp' (λ_ _ z=>hG z (aF.new hp)) pr) ⟨H',hp,pr⟩
theorem eI (G:Hp->β->V->Prop) (f:Nat->β) (hl:n<=1000) (hG:∀{H H' c x},G H c x->aF H H'->G H' c x)
  (hs:∀(i:Nat) H' NY NN,i < n->aF H H'->(∀y H2,aF H' H2->G H2 (f i) y->NY y H2)->mU σ₀ g tf te (.int i) H' NY NN)
  (hd:∀ys H' p,H p=none->aF H H'->H' p=some (.lst ys)->Paired (G H') ((List.range n).map f) ys->(∃H2,H2 p=none/\Paired (G H2) ((List.range n).map f) ys)->Q (.ref p) H'):oh (BC 0 n) σ₀ g tf te Q H:=by
 refine ie (λi ys H'=>aF H H'/\Paired (G H') ((List.range i).map f) ys) (aL (bc (by lia))) ⟨aF.refl _,.nil⟩ ?_ ?_
 ·rintro i ys H' hi hlen ⟨s,pr⟩;rw[j7];refine hs i H' _ _ hi s λy H2 s2 gy=>⟨s.trans s2,?_⟩
  rw[mS,bH];exact bP (Paired.imp' (λ_ _ z=>hG z s2) pr) (.cons gy .nil)
 ·rintro ys H' hy ⟨s,pr⟩ p hp;exact hd ys _ p (s.none hp) (s.trans (aF.new hp)) aH (Paired.imp' (λ_ _ z=>hG z (aF.new hp)) pr) ⟨H',hp,pr⟩
theorem yy (G:Hp->β->V->Prop) (C:β->Prop) (hB:fR H b) (hl:n<=1000) (hG:∀{H' H'' c x},G H' c x->cF b H' H''->fR H' b->G H'' c x)
  (hs:∀(i:Nat) H' NY NN,i < n->cF b H H'->fR H' b->(∀y c H2,cF b H' H2->fR H2 b->C c->G H2 c y->NY y H2)->mU σ₀ g tf te (.int i) H' NY NN)
  (hd:∀ys cs H' p,H p=none->cF b H H'->fR H' b->H' p=some (.lst ys)->cs.length=n->(∀c∈cs,C c)->Paired (G H') cs ys->(∃H2,H2 p=none/\Paired (G H2) cs ys)->Q (.ref p) H'):oh (BC 0 n) σ₀ g tf te Q H:=by
 refine ie (λi ys H'=>cF b H H'/\fR H' b/\∃cs,cs.length=i/\(∀c∈cs,C c)/\Paired (G H') cs ys) (aL (bc (by lia))) ⟨(aF.refl _).upto,hB,[],rfl,(λ_ z=>nomatch z),.nil⟩ ?_ ?_
 ·rintro i ys H' hi hlen ⟨u,B,cs,lc,hc,pr⟩;rw[j7];refine hs i H' _ _ hi u B λy c H2 u2 B2 cc gy=>⟨u.trans u2,B2,cs++[c],by simp [lc],Ai hc cc,bP (Paired.imp' (λ_ _ z=>hG z u2 B) pr) (.cons gy .nil)⟩
 ·rintro ys H' hy ⟨u,B,cs,lc,hc,pr⟩ p hp;have s:aF H' (upd H' p (.lst ys)):=aF.new hp;exact hd ys cs _ p (u.none B hp) (u.same s) (B.same s) aH lc hc (Paired.imp' (λ_ _ z=>hG z s.upto B) pr) ⟨H',hp,pr⟩
end
section
variable {X:Cx}
theorem eF {g:TG} {tb:TS} {D:Ends} (Pv:Nat->St->Hp->Prop) (h0:Pv 0 σ H)
  (hs:∀(i:Nat) σ H,i < n->Pv i σ H->g (.int i) σ H λσ2 H2=>tb { D with nx:=Pv (i+1),ct:=Pv (i+1),bk:=D.nx } σ2 H2) (hd:∀σ H,Pv n σ H->D.nx σ H) :
  ∃W:Nat->Nat->St->Hp->Prop,(∃m,W 0 m σ H)/\∀i m σ H,W i m σ H →
   ((BC 0 n).stop i H/\D.nx σ H)\/((BC 0 n).go i H/\∃N:St->Hp->Prop,(∀σ' H',N σ' H'->∃m',m' < m/\W (i+1) m' σ' H')/\∀x H',(BC 0 n).yld i H x H'->g x σ H' λσ2 H2=>tb { D with nx:=N,ct:=N,bk:=D.nx } σ2 H2) :=
 yh (lo:=0) Pv h0 (λi σ H hi p=>by rw[j7];exact hs i σ H hi p) hd
theorem jh:oi X (.type "int") (λxs H Q=>∃b:Bool,xs=[.bl b]/\Q (.int (if b=true then 1 else 0)) H):=by
 intro pins s σ H xs us Q I r h;obtain ⟨b,rfl,q⟩:=h;obtain ⟨u,rfl,ru⟩:=vals1 r;cases ru;exact call_int_bool ⟨.int _,H,I.tok _,⟨_,rfl⟩,q⟩
theorem CT {st:Stmt}:PS X st (λ_ _ _=>False):=λ_ _ _ _ _ _ h=>h.elim
end
theorem Fe {t b:Int} (hb:0 < b) (h1:t.natAbs<=W) (h2:b.natAbs<=W):∃q:Rat,(lo t b,hi t b)=nm q/\Dr W q/\q*(b:Rat)=(t:Rat):=by
 have hb':(b:Rat)≠0:=λz=>by have:=ug.mp z;lia
 have e:(t:Rat) / (b:Rat)*(b:Rat)=t:=Rat.div_mul_cancel hb';have h:=mC hb e;refine ⟨_,h,⟨?_,?_⟩,e⟩
 ·have:=congrArg Prod.fst h;have z:=lo_le (t:=t) (b:=b) (by lia);show ((nm ((t:Rat) / (b:Rat))).1).natAbs<=W
  rw[<- this];exact aj z h1
 ·have:=congrArg Prod.snd h;have z:=IJ (t:=t) (b:=b) (by lia);have hd:(((t:Rat) / (b:Rat)).den:Int)=hi t b:=this.symm;have hp:=z7 (t:=t) hb
  lia
theorem Cg {K:FG9} (h:Paired (bX K H) qs xs) (hj:j < qs.length):∃v,Cq xs (j:Int)=some v/\bX K H (qs.getD j 0) v:=by
 have hl:=h.length;refine ⟨xs[j]'(by lia),eG (by simp),?_⟩;have:=gX h (i:=j) hj (by lia);rwa [aa,af hj]
theorem yk {xs ys:List Rat} (h1:i < xs.length) (h2:i < ys.length):eh (xs.take (i+1)) (ys.take (i+1))=eh (xs.take i) (ys.take i)+xs.getD i 0*ys.getD i 0:=by
 have e1:xs[i]?=some (xs.getD i 0):=by rw[aa,af h1];rfl
 have e2:ys[i]?=some (ys.getD i 0):=by rw[aa,af h2];rfl
 unfold eh;rw[take_snoc e1,take_snoc e2,List.zipWith_append (by simp;lia),List.sum_append];simp [Rat.add_zero]
theorem getD_mem {xs:List Rat} (h:i < xs.length):xs.getD i 0∈xs:=by
 rw[aa,af h];exact aZ h
theorem DE {xs ys:List Rat} (h:ys.length=xs.length):List.zipWith (λx y=>x+y) xs ys=(List.range xs.length).map λi=>xs.getD i 0+ys.getD i 0:=by
 apply DC;intro i;rw[du,aD];by_cases hi:i < xs.length
 ·rw[cS hi,af hi,af (show i < ys.length by lia)];simp [aa,af hi,af (show i < ys.length by lia)]
 ·rw[be (show (List.range xs.length).length<=i by simp;lia),be (show xs.length<=i by lia)];rfl
theorem cA.updL {K:FG9} (h:cA K H0 H qs x) (hl:H l=some (.lst ys)) (nl:H0 l≠none):cA K H0 (upd H l o) qs x:=by obtain ⟨q,a,b,c⟩:=h;exact ⟨q,a,b,c.updL hl λz=>nl (by rw[<- z];exact b)⟩
theorem fR.at (B:fR H b):H b≠none:=by obtain ⟨_,_,_,_,_,e,_⟩:=B;rw[e];simp
theorem Inner.at (B:fR H b) (i:Inner H b q):H q≠none:=by
 obtain ⟨q',i',xs,e⟩:=B.inner;rw[<- Inner.inj i' i,e];simp
theorem fH {F:α->β->Prop} {l1:List α} {l2:List β} (h:Paired F l1 l2) (hi:i < l1.length):∃x y,l1[i]?=some x/\l2[i]?=some y/\x∈l1/\F x y:=by
 have hl:=h.length;exact ⟨l1[i],l2[i]'(by lia),by simp,by simp,aZ _,gX h hi (by lia)⟩
section
variable {α β:Type} [DecidableEq α] [DecidableEq β] (k1:Kind α) (k2:Kind β)
theorem rN {X:Cx} {pins:List (Addr×Obj)} {σ:St} {H:Hp} {s:Shared} {A:Around} (I:Inv X pins σ H s) (h1:A.units+k1.d < cLine) (h2:A.units+k2.d < cLine) {x y z w:V} {us ws:List Value} {a b:α×β}
  (rx:cf [x,y] us) (ry:cf [z,w] ws) (a1:k1.R X.K H x a.1) (a2:k2.R X.K H y a.2) (b1:k1.R X.K H z b.1) (b2:k2.R X.K H w b.2) :
  ∀j (h1:j < us.toArray.size) (h2:j < ws.toArray.size),SeqAt.EqAt A s us.toArray[j] ws.toArray[j] (if j=0 then decide (a.1=b.1) else decide (a.2=b.2)):=λj l1 l2=>by
 obtain ⟨u1,u2,rfl,r1,r2⟩:=vals2 rx;obtain ⟨w1,w2,rfl,q1,q2⟩:=vals2 ry;have hj:j < 2:=by simpa using l1
 rcases bR j 1 with h | h
 ·have e:j=0:=by lia
  subst e;exact k1.eq (A:=A) I r1 q1 a1 b1 h1
 ·have e:j=1:=by lia
  subst e;exact k2.eq (A:=A) I r2 q2 a2 b2 h2
theorem yV {a b:α×β}:(List.range 2).all (λj=>if j=0 then decide (a.1=b.1) else decide (a.2=b.2))=decide (a=b):=by
 have e:List.range 2=[0,1]:=rfl;rw[e];simp only[Kv,List.all_nil,Bool.and_true,if_true,Nat.one_ne_zero,if_false];rw[<- Bool.decide_and];exact decide_eq_decide.mpr ⟨λ⟨h1,h2⟩=>Prod.ext h1 h2,λh=>by rw[h];exact ⟨rfl,rfl⟩⟩
def IE:Kind (α×β) where
 R:=λK H x a=>∃p u v,x=.ref p/\jG K H p [u,v]/\k1.R K H u a.1/\k2.R K H v a.2
 d:=max k1.d k2.d+1
 inj:=λ{X pins σ H s x a b} I h1 h2=>by
  obtain ⟨p,u,v,rfl,hp,a1,a2⟩:=h1;obtain ⟨q,u',v',e,hq,b1,b2⟩:=h2;cases e;have e:=I.tuple_inj hp hq;cases e;exact Prod.ext (k1.inj I a1 b1) (k2.inj I a2 b2)
 rc:=λ{X pins σ H s x y v u a b A} I rx ry h1 h2 hA=>by
  obtain ⟨p,x1,x2,rfl,hp,a1,a2⟩:=h1;obtain ⟨q,y1,y2,rfl,hq,b1,b2⟩:=h2;cases rx;cases ry;obtain ⟨us,r1,t1,_⟩:=I.tuple hp;obtain ⟨ws,r2,t2,_⟩:=I.tuple hq;have l1:=r1.length;have l2:=r2.length;have z:=SeqAt.RcAt.tuples (A:=A) (e:=λj=>if j=0 then decide (a.1=b.1) else decide (a.2=b.2)) (show s.heap.IsTuple p us.toArray from t1) (show s.heap.IsTuple q ws.toArray from t2) (by lia) (rN k1 k2 (A:=A.in1) I (by show A.units+1+k1.d < cLine;lia) (by show A.units+1+k2.d < cLine;lia) r1 r2 a1 a2 b1 b2);have e1:us.toArray.size=2:=by rw[aI,<- l1];rfl
  have e2:ws.toArray.size=2:=by rw[aI,<- l2];rfl
  rw[e1,e2,Nat.min_self,yV] at z;simpa using z
 ne:=λ{X pins σ H s x y v u a b A} I rx ry h1 h2 hA=>by
  obtain ⟨p,x1,x2,rfl,hp,a1,a2⟩:=h1;obtain ⟨q,y1,y2,rfl,hq,b1,b2⟩:=h2;cases rx;cases ry;obtain ⟨us,r1,t1,_⟩:=I.tuple hp;obtain ⟨ws,r2,t2,_⟩:=I.tuple hq;have l1:=r1.length;have l2:=r2.length;have z:=SeqAt.RcNeAt.tuples (A:=A) (e:=λj=>if j=0 then decide (a.1=b.1) else decide (a.2=b.2)) (show s.heap.IsTuple p us.toArray from t1) (show s.heap.IsTuple q ws.toArray from t2) (by lia) (rN k1 k2 (A:=A.in1) I (by show A.units+1+k1.d < cLine;lia) (by show A.units+1+k2.d < cLine;lia) r1 r2 a1 a2 b1 b2);have e1:us.toArray.size=2:=by rw[aI,<- l1];rfl
  have e2:ws.toArray.size=2:=by rw[aI,<- l2];rfl
  rw[e1,e2,Nat.min_self,yV] at z;simpa using z
 eq:=λ{X pins σ H s x y v u a b A} I rx ry h1 h2 hA=>by
  obtain ⟨p,x1,x2,rfl,hp,a1,a2⟩:=h1;obtain ⟨q,y1,y2,rfl,hq,b1,b2⟩:=h2;cases rx;cases ry;by_cases e:p=q
  ·subst e;have e:=I.tuple_inj hp hq;cases e;have e2:a=b:=Prod.ext (k1.inj I a1 b1) (k2.inj I a2 b2);rw[decide_eq_true e2];exact SeqAt.EqAt.same _
  ·obtain ⟨us,r1,t1,_⟩:=I.tuple hp;obtain ⟨ws,r2,t2,_⟩:=I.tuple hq;have l1:=r1.length;have l2:=r2.length;have z:=SeqAt.RcAt.tuples (A:=A) (e:=λj=>if j=0 then decide (a.1=b.1) else decide (a.2=b.2)) (show s.heap.IsTuple p us.toArray from t1) (show s.heap.IsTuple q ws.toArray from t2) (by lia) (rN k1 k2 (A:=A.in1) I (by show A.units+1+k1.d < cLine;lia) (by show A.units+1+k2.d < cLine;lia) r1 r2 a1 a2 b1 b2);have e1:us.toArray.size=2:=by rw[aI,<- l1];rfl
   have e2:ws.toArray.size=2:=by rw[aI,<- l2];rfl
   rw[e1,e2,Nat.min_self,yV] at z;exact .of_refs e (by simpa using z)
end
theorem Dt (h1:-(2^64) < i) (h2:i < 2^64):fe i j:=.inl (.inl ⟨h1,h2⟩)
theorem HU (h1:-(2^64) < j) (h2:j < 2^64):fe i j:=.inl (.inr ⟨h1,h2⟩)
def Kn (K : FG9) (l : Addr) : It :=
  ⟨λi H => ∃ xs x, bD K H l xs /\ xs[i]? = some x,
   λi H v H' => ∃ p x, v = .ref p /\ H p = none /\ H' = upd H p (.tup [.int i, x]) /\ ∀ xs, bD K H l xs → xs[i]? = some x,
   λi H => ∃ xs, bD K H l xs /\ xs.length ≤ i⟩
def tnE (e it l:Addr) (i:Nat) (h:Heap):Prop:=(∃old,IsEnum h e it i old)/\h.IsListIter it l i
theorem DG {P:Program} {w:World} {K:FG9} {elts:List Expr} {kk:Nat} {tpos:Pos} (e it l:Addr) (hei:e≠it):Turn P w K (.Tuple elts kk tpos) (Kn K l) [e,it] e (tnE e it l) where
 mem:=by simp
 obj:=λi h st b hb=>by
  obtain ⟨⟨old,he⟩,⟨o1,g1,c1,d1⟩⟩:=st;simp only[aE,aO,or_false] at hb;rcases hb with rfl | rfl
  ·exact ⟨_,he,λv q=>nomatch q⟩
  ·exact ⟨o1,g1,λv q=>by rw[d1] at q;cases q⟩
 keep:=λi h h' st k=>by
  obtain ⟨⟨old,he⟩,h1⟩:=st;exact ⟨⟨old,k e (by simp) _ he⟩,h1.at λo q=>k it (by simp) o q⟩
 item:=by
  intro X hP hw hK hc i pins s σ H E I hf st hg;subst hP hw hK;obtain ⟨⟨old,he⟩,h1⟩:=st;obtain ⟨xs,x,qx,ex⟩:=hg;obtain ⟨us,rx,px,_⟩:=I.list qx;obtain ⟨u,eu,ru⟩:=rx.get ex;refine wpAny_pyNext_enum_item he h1 px.isList (x:=u) (by simpa using eu) hei λh' a1 a2 a3 a4 hk=>?_
  refine ⟨_,rfl,wpAny_letOwnedTupleGo_enum a1 λh'' he'' hs=>?_⟩;have hT0:H s.heap.objs.size=none:=I.hok.fresh (ao _);have ene:s.heap.objs.size≠e:=DB (Heap.lt_size he)
  have up:∀b o,b∉[e,it]->s.heap.get? b=some o->h''.get? b=some o:=λb o hb q=>by
   simp only[aE,aO,or_false,not_or] at hb;exact (hs.2 b hb.1).trans (hk b o hb.1 hb.2 q)
  have tup:h''.get? s.heap.objs.size=some { cls:=.type "tuple",data:=.seq #[.int i s.toks,u] }:=(hs.2 _ ene).trans a3;have I1:Inv X pins σ H { s with heap:=h'',toks:=s.toks+1 }:=I.moved (g':=s.gens) (d':=s.drawn) (t':=s.toks+1) (ch:=[e,it]) hf up I.bare;have fT:ig X pins H s.heap.objs.size:=I.fpOk (ao _) hT0;have I2:=I1.track (o:=.tup [.int i,x]) fT ⟨fW rfl,[.int i s.toks,u],.cons ⟨_,rfl⟩ (.cons ru .nil),⟨_,tup,rfl,_,rfl⟩⟩;refine ⟨.ref s.heap.objs.size,_,I2,rfl,⟨_,x,rfl,hT0,rfl,λxs' q=>by rw[I.list_inj q qx];exact ex⟩,?_,λb hb=>?_⟩
  ·exact ⟨⟨_,by simpa using he''⟩,a2.at λo q=>(hs.2 _ hei.symm).trans q⟩
  ·rw[a7]
   ·exact (hf b hb).1
   ·obtain ⟨o1,g1,_⟩:=h1;simp only[aE,aO,or_false] at hb;rcases hb with rfl | rfl
    ·exact ene.symm
    ·exact cm (Heap.lt_size g1)
 done:=by
  intro X hP hw hK hc i pins s σ H E I hf st hg;subst hP hw hK;obtain ⟨⟨old,he⟩,h1⟩:=st;obtain ⟨xs,qx,hend⟩:=hg;obtain ⟨us,rx,px,_⟩:=I.list qx;have lx:=rx.length;refine wpAny_pyNext_enum_end (I.ok.hd hc) he h1 px.isList (by simp;lia) λh' hk=>⟨rfl,?_⟩
  exact I.moved (g':=s.gens) (d':=s.drawn) (t':=s.toks) (ch:=[e,it]) hf (λb o hb q=>hk b o (λz=>hb (by simp [z])) q) I.bare
 self:=λ_ _ _ _ _ st h=>let ⟨⟨_,he⟩,_⟩:=st;wpAny_pyIter_enum he h
section
variable {X:Cx}
def II (K:FG9) (ta:TA):TI:=λσ H R=>ta σ H λvs H1=>∃l,vs=[.ref l]/\(∃xs,bD K H1 l xs)/\R (Kn K l) H1
theorem CV {a:Expr} {ta:TA} {p pos tpos:Pos} {elts:List Expr} {kk:Nat} (hg:Gl X "enumerate") (hm:X.mg "enumerate"=none) (ha:PA X [a] ta) (hs:starEach [a] X.env=[(false,eval a X.env)]:=by rfl) :
  PI X (.Tuple elts kk tpos) (.Call (.Name "enumerate" p) [a] [] pos) (II X.K ta):=by
 intro pins s σ H R I h;refine Call_ (ib I hg hm boot_enumerate (PyProof.Rows.callWith_type1 (eJ (ha pos pins s σ H _ I h) λus s1 ⟨vs,H1,I1,r1,q1⟩=>?_) (by rw[hs];rfl) rfl));obtain ⟨l,e,⟨xs,qx⟩,q⟩:=q1;subst e;obtain ⟨u,rfl,ru⟩:=vals1 r1;cases ru;obtain ⟨us,rx,px,_⟩:=I1.list qx;refine call_enumerate_list px.isList λh' a1 a2 a3 hk=>wpAny_pyIter_enum a1 ?_
 have I2:Inv X pins σ H1 { s1 with heap:=h' }:=I1.kept (t':=s1.toks) hk;refine ⟨_,[s1.heap.objs.size+1,s1.heap.objs.size],_,_,H1,rfl,I2,DG (s1.heap.objs.size+1) s1.heap.objs.size l (Nat.succ_ne_self _),⟨⟨_,a1⟩,a2⟩,λb hb=>?_,q⟩
 have hb':s1.heap.objs.size<=b:=by
  simp only[aE,aO,or_false] at hb;rcases hb with rfl | rfl <;> first | exact mO _ | exact ao _
 exact I1.fpOk hb' (I1.hok.fresh hb')
end
theorem EO {K:FG9} (h:ta σ H λvs H1=>∃l,vs=[.ref l]/\(∃xs,bD K H1 l xs)/\R (Kn K l) H1):II K ta σ H R:=h
theorem FC {K:FG9} {g:TG} {tb:TS} {D:Ends} (Pv:Nat->St->Hp->Prop) (h0:Pv 0 σ H) (hl:∀i σ H,i<=xs.length->Pv i σ H->bD K H l xs)
  (hs:∀i x σ H p,xs[i]?=some x->Pv i σ H->H p=none->g (.ref p) σ (upd H p (.tup [.int i,x])) λσ2 H2=>tb { D with nx:=Pv (i+1),ct:=Pv (i+1),bk:=D.nx } σ2 H2) (hd:∀σ H,Pv xs.length σ H->D.nx σ H) :
  ∃W:Nat->Nat->St->Hp->Prop,(∃m,W 0 m σ H)/\∀i m σ H,W i m σ H →
   ((Kn K l).stop i H/\D.nx σ H)\/((Kn K l).go i H/\∃N:St->Hp->Prop,(∀σ' H',N σ' H'->∃m',m' < m/\W (i+1) m' σ' H')/\∀x H',(Kn K l).yld i H x H'->g x σ H' λσ2 H2=>tb { D with nx:=N,ct:=N,bk:=D.nx } σ2 H2):=by
 refine ⟨λi m σ H=>m=xs.length - i/\i<=xs.length/\Pv i σ H,⟨xs.length,by simp,bo _,h0⟩,?_⟩;rintro i m σ H ⟨rfl,hi,p⟩;have q1:=hl i σ H hi p;by_cases hlt:i < xs.length
 ·refine .inr ⟨⟨xs,xs[i],q1,by simp [hlt]⟩,Pv (i+1),λσ' H' p'=>⟨xs.length - (i+1),by lia,rfl,hlt,p'⟩,λx H' y=>?_⟩;obtain ⟨r,x',rfl,hr,rfl,e1⟩:=y;exact hs i x' σ _ r (e1 xs q1) p hr
 ·have e:i=xs.length:=by lia
  subst e;exact .inl ⟨⟨xs,q1,ao _⟩,hd σ H p⟩
section
variable {X:Cx}
theorem Hw (K:FG9) {e:Expr} {f:Str} {pos:Pos} {ta:TE} (he:PE X e ta) (hb:attributeBase e f X.env (eval e X.env)=eval e X.env) (hK:X.K=K:=by rfl):PE X (.Attribute e f pos) (Jf K ta f):=by subst hK;exact eT he hb
end
theorem JA {K:FG9} (h:ta σ H λx H1=>∃a C dx fs v,x=.ref a/\H1 a=some (.ins C dx fs)/\F1 K C/\gL K C f/\fs.lookup f=some v/\Q v H1):Jf K ta f σ H Q:=h
theorem GG {K:FG9} (h:tv σ H λy H1=>ta σ H1 λx H2=>∃a C dx fs,x=.ref a/\H2 a=some (.ins C dx fs)/\F1 K C/\gL K C f/\fs.length < 1000 /\
 D.nx σ (upd H2 a (.ins C dx (bU f y fs)))):KY K ta tv f D σ H:=h
theorem GN (h:t σ H λvs H1=>∀x dx,H1 x=none->H1 dx=none->dx≠x →
 sp (.ref x :: vs) (upd (upd H1 dx (.own x)) x (.ins C dx [])) (λv H2=>v=.non/\Q (.ref x) H2) E):Ip C sp [] E t σ H Q:=by
 have e:(λvs (H1:Hp)=>∀x dx,H1 x=none->H1 dx=none->dx≠x->sp (.ref x :: (vs++[])) (upd (upd H1 dx (.own x)) x (.ins C dx [])) (λv H2=>v=.non/\Q (.ref x) H2) E)=λvs H1=>∀x dx,H1 x=none->H1 dx=none->dx≠x->sp (.ref x :: vs) (upd (upd H1 dx (.own x)) x (.ins C dx [])) (λv H2=>v=.non/\Q (.ref x) H2) E:=by
  funext vs H1;simp only[w5]
 show t σ H (λvs (H1:Hp)=>∀x dx,H1 x=none->H1 dx=none->dx≠x->sp (.ref x :: (vs++[])) (upd (upd H1 dx (.own x)) x (.ins C dx [])) (λv H2=>v=.non/\Q (.ref x) H2) E)
 rw[e];exact h
def Ao (x:Addr) (H H':Hp):Prop:=∀b o,H b=some o->b≠x->H' b=some o
theorem Ao.upd:Ao x H (L2.upd H x o):=λb u h n=>by rw[a7 n];exact h
def pz (H:Hp) (x:Addr):Prop:=∃C dx fs,H x=some (.ins C dx fs)
section
variable {K:FG9} {H H' H0:Hp} {q:Rat} {v:V} {x p:Addr} {qs:List Rat} {rows:LR9}
theorem bX.exc (h:bX K H q v) (e:Ao x H H') (hx:pz H x):bX K H' q v:=by
 obtain ⟨C,dx,fs,hx⟩:=hx;obtain ⟨r,er,s⟩:=h;refine ⟨r,er,?_⟩;rcases s with (h | ⟨o,h⟩) | h
 ·exact .inl (.inl (e _ _ h λz=>by rw[z,hx] at h;cases h))
 ·exact .inl (.inr ⟨o,e _ _ h λz=>by rw[z,hx] at h;cases h⟩)
 ·exact .inr h
theorem dg.exc (h:dg K H p qs) (e:Ao x H H') (hx:pz H x):dg K H' p qs:=by
 obtain ⟨xs,g,r⟩:=h;have hx':=hx;obtain ⟨C,dx,fs,hx⟩:=hx;exact ⟨xs,e _ _ g (λz=>by rw[z,hx] at g;cases g),Paired.imp' (λ_ _ z=>z.exc e hx') r⟩
theorem cA.exc (h:cA K H0 H qs v) (e:Ao x H H') (hx:pz H x):cA K H0 H' qs v:=by obtain ⟨q,a,b,c⟩:=h;exact ⟨q,a,b,c.exc e hx⟩
theorem bg.exc (h:bg K H0 H p rows) (e:Ao x H H') (hx:pz H x):bg K H0 H' p rows:=by
 obtain ⟨xs,g,r,n⟩:=h;have hx':=hx;obtain ⟨C,dx,fs,hx⟩:=hx;exact ⟨xs,e _ _ g (λz=>by rw[z,hx] at g;cases g),Paired.imp' (λ_ _ z=>z.exc e hx') r,n⟩
end
def qg (a b c:Addr) (n i o:Nat):List (Str×V):=bU "outs" (.int o) (bU "look" (.ref c) (bU "ins" (.int i) (bU "put" (.ref b) (bU "states" (.int n) (bU "move" (.ref a) [])))))
section
variable {a b c:Addr} {n i o:Nat}
theorem EA:(qg a b c n i o).lookup ("look":Str)=some (.ref c):=by
 unfold qg;rw[bE,if_neg (by decide +kernel),bE,if_pos rfl]
theorem y4:(qg a b c n i o).lookup ("put":Str)=some (.ref b):=by
 unfold qg;rw[bE,if_neg (by decide +kernel),bE,if_neg (by decide +kernel),bE,if_neg (by decide +kernel),bE,if_pos rfl]
theorem kU:(qg a b c n i o).lookup ("states":Str)=some (.int n):=by
 unfold qg;rw[bE,if_neg (by decide +kernel),bE,if_neg (by decide +kernel),bE,if_neg (by decide +kernel),bE,if_neg (by decide +kernel),bE,if_pos rfl]
theorem qe:(qg a b c n i o).lookup ("move":Str)=some (.ref a):=by
 unfold qg;rw[bE,if_neg (by decide +kernel),bE,if_neg (by decide +kernel),bE,if_neg (by decide +kernel),bE,if_neg (by decide +kernel),bE,if_neg (by decide +kernel),bE,if_pos rfl]
end
theorem dh {k:Str} {v:V}:∀{l:List (Str×V)},(bU k v l).length<=l.length+1
 | []=>ao _
 | (x,y) :: r=>by
  unfold bU
  split
  ·simp
  ·have:=dh (k:=k) (v:=v) (l:=r);simp only[bq]
   lia
structure kC (mv pt lk:LR9):Prop where
 n8:mv.length<=8
 i4:pt.length<=4
 o4:lk.length<=4
 mw:∀xs∈mv,xs.length=mv.length
 pw:∀xs∈pt,xs.length=mv.length
 lw:∀xs∈lk,xs.length=mv.length
def yO (mv pt lk:LR9):Prop:=∃M V:Nat,0 < M/\M<=2^800/\V<=2^400/\GF M V mv/\GF M V pt/\GF M V lk
def p5 (K:FG9) (H0 H:Hp) (C p:Addr) (mv pt lk:LR9):Prop:=∃dx a b c,H p=some (.ins C dx (qg a b c mv.length pt.length lk.length))/\H0 a=none/\H0 b=none/\H0 c=none/\bg K H0 H a mv/\bg K H0 H b pt/\bg K H0 H c lk
section
variable {K:FG9} {H H' H0 H1:Hp} {C p b:Addr} {mv pt lk:LR9}
theorem p5.same (h:p5 K H0 H C p mv pt lk) (e:aF H H'):p5 K H0 H' C p mv pt lk:=by obtain ⟨dx,a,b,c,g,n1,n2,n3,g1,g2,g3⟩:=h;exact ⟨dx,a,b,c,e _ _ g,n1,n2,n3,g1.same e,g2.same e,g3.same e⟩
theorem p5.weak (h:p5 K H0 H C p mv pt lk) (e:aF H1 H0):p5 K H1 H C p mv pt lk:=by obtain ⟨dx,a,b,c,g,n1,n2,n3,g1,g2,g3⟩:=h;exact ⟨dx,a,b,c,g,e.none n1,e.none n2,e.none n3,g1.weak e,g2.weak e,g3.weak e⟩
theorem yO.fits (h:yO mv pt lk) (hl:∀x∈l,(∃xs∈mv,x∈xs)\/(∃xs∈pt,x∈xs)\/(∃xs∈lk,x∈xs)\/x=0):Fits l:=by
 obtain ⟨M,V,h0,h1,h2,h3,h4,h5⟩:=h;refine ⟨M,V,h0,aj h1 (ar (by decide) (by decide)),aj h2 (ar (by decide) (by decide)),λx hx=>?_⟩;rcases hl x hx with ⟨xs,a,b⟩ | ⟨xs,a,b⟩ | ⟨xs,a,b⟩ | rfl
 ·exact h3 xs a x b
 ·exact h4 xs a x b
 ·exact h5 xs a x b
 ·exact Fr.zero
end
def DJ:Sp:=λvs H Q _=>∃i:Int,vs=[.int i]/\Q (.bl true) H
def DN (K:FG9):Sp:=λvs H Q _=>∃x n,vs=[x]/\Bw K H x n/\rJ n/\∀H',aF H H'->Q (.bl true) H'
inductive CK (vs:List V) (H:Hp) (Q:VK) (E9:XK):Prop
 | mk (p:Addr) (xs:List V) (a m:Int):vs=[.ref p,.int a,.int m]->H p=some (.lst xs)->(xs.length:Int)<=m->Q .non H->CK  vs H Q E9
inductive CP (K:FG9) (vs:List V) (H:Hp) (Q:VK) (E9:XK):Prop
 | mk (p:Addr) (H0:Hp) (rows:LR9) (w:Nat):vs=[.ref p,.int w]->bg K H0 H p rows->rows.length<=1000->w<=1000->((∀xs∈rows,xs.length=w/\∀x∈xs,rJ (nm x)))->(∀r H',H r=none->aF H H'->bg K H H' r rows->Q (.ref r) H')->CP K vs H Q E9
def Ig (rows:LR9):Prop:=∀xs∈rows,∀x∈xs,rJ (nm x)
inductive CN (K:FG9) (C:Addr) (vs:List V) (H:Hp) (Q:VK) (E9:XK):Prop
 | mk (x dx p q r:Addr) (Hb H0 H1 H2:Hp) (mv pt lk:LR9):vs=[.ref x,.ref p,.ref q,.ref r]->Hb x=none->Hb dx=none->dx≠x->H=upd (upd Hb dx (.own x)) x (.ins C dx [])->bg K H0 Hb p mv->bg K H1 Hb q pt->bg K H2 Hb r lk->kC mv pt lk->Ig mv->Ig pt->Ig lk->(∀H',aF Hb H'->p5 K Hb H' C x mv pt lk->Q .non H')->CN K C vs H Q E9
theorem yO.ok (h:yO mv pt lk):Ig mv/\Ig pt/\Ig lk :=
 ⟨λxs hx x hx'=>(h.fits (l:=xs) λy hy=>.inl ⟨xs,hx,hy⟩).ok hx',λxs hx x hx'=>(h.fits (l:=xs) λy hy=>.inr (.inl ⟨xs,hx,hy⟩)).ok hx',λxs hx x hx'=>(h.fits (l:=xs) λy hy=>.inr (.inr (.inl ⟨xs,hx,hy⟩))).ok hx'⟩
def dX (K:FG9) (A:Addr->Prop) (H:Hp) (n:Nat) (C:Rat->Prop) (x:V):Prop:=∃q qs,x=V.ref q/\A q/\dg K H q qs/\qs.length=n/\∀y∈qs,C y
section
variable {K:FG9} {A A':Addr->Prop} {H H' H0:Hp} {n:Nat} {C C':Rat->Prop} {x v:V} {q b l p:Addr} {xs zs:List V} {y:Rat} {o:HO}
theorem dX.same (h:dX K A H n C x) (e:aF H H'):dX K A H' n C x:=by obtain ⟨q,qs,a,c,r,z⟩:=h;exact ⟨q,qs,a,c,r.same e,z⟩
theorem dX.upto (h:dX K A H n C x) (u:cF b H H') (B:fR H b) (nb:¬A b):dX K A H' n C x:=by obtain ⟨q,qs,a,c,r,z⟩:=h;exact ⟨q,qs,a,c,r.upto u B (λe=>nb (by rw[<- e];exact c)),z⟩
theorem dX.other (h:dX K A H n C x) (hl:H l=some (.lst zs)) (nl:¬A l):dX K A (upd H l o) n C x:=by obtain ⟨q,qs,a,c,r,z⟩:=h;exact ⟨q,qs,a,c,r.updL hl (λe=>nl (by rw[<- e];exact c)),z⟩
theorem dX.weak (h:dX K A H n C x) (w:∀q,A q->A' q) (wc:∀y,C y->C' y):dX K A' H n C' x:=by obtain ⟨q,qs,a,c,r,l,z⟩:=h;exact ⟨q,qs,a,w q c,r,l,λy hy=>wc y (z y hy)⟩
theorem vp {α β:Type} {F:α->β->Prop} {a:α} {b:β} (h:F a b):∀{l1:List α} {l2:List β} (j:Nat),Paired F l1 l2->Paired F (l1.set j a) (l2.set j b)
 | _,_,_,.nil=>.nil
 | _,_,0,.cons _ t=>.cons h t
 | _,_,j+1,.cons r t=>.cons r (vp h j t)
theorem dX.put (h:dX K A H n C x) (hq:H q=some (.lst zs)) (hv:bX K H y v) (hc:C y) (j:Nat):dX K A (upd H q (.lst (zs.set j v))) n C x:=by
 obtain ⟨q1,qs,rfl,a,⟨zs1,g1,pr⟩,l1,c1⟩:=h;by_cases e:q1=q
 ·subst e;rw[hq] at g1;cases g1;refine ⟨q1,qs.set j y,rfl,a,⟨_,aH,vp (hv.updL hq) j (Paired.imp' (λ_ _ z=>z.updL hq) pr)⟩,by rw[dR];exact l1,λz hz=>?_⟩;rcases bY hz with hz | rfl
  ·exact c1 z hz
  ·exact hc
 ·exact ⟨q1,qs,rfl,a,⟨zs1,by rw[a7 e];exact g1,Paired.imp' (λ_ _ z=>z.updL hq) pr⟩,l1,c1⟩
theorem dX.at (h:dX K A H n C x):∃q zs qs,x=V.ref q/\A q/\H q=some (.lst zs)/\zs.length=n/\Paired (bX K H) qs zs/\qs.length=n/\∀y∈qs,C y:=by obtain ⟨q,qs,a,c,⟨zs,g,pr⟩,l,z⟩:=h;exact ⟨q,zs,qs,a,c,g,by rw[<- pr.length];exact l,pr,l,z⟩
end
theorem nU {i:Int} (h:i.natAbs<=W) (hW:1<=W):Dr W (i:Rat):=⟨h,hW⟩
def LF (K:FG9) (A:Addr->Prop) (H:Hp) (n:Nat) (C:Rat->Prop) (p:Addr) (m:Nat):Prop:=∃us,H p=some (.lst us)/\us.length=m/\¬A p/\∀x∈us,dX K A H n C x
structure Bx (A:Addr->Prop) (m p l b q0:Addr):Prop where
 am:¬A m
 ap:¬A p
 al:¬A l
 ab:¬A b
 aq:¬A q0
 mb:m≠b
 pb:p≠b
 lb:l≠b
 mp:m≠p
 ml:m≠l
 mq:m≠q0
theorem Dg {M:Nat} {z:Int} (h:z.natAbs<=2):Fr 1 2 (z:Rat):=Fr.int h
theorem z8 {z:Int} (hz:z.natAbs<=2) (ha:Fr M W a) (hc:Fr M W c):Fr M (3*W) (a+(z:Rat)*c):=by
 have h:=(Dg (M:=M) hz).mul hc;rw[FW] at h;exact (ha.add h).mono (by lia)
theorem yZ {z:Int} (h:z.natAbs<=1000):oa (z:Rat):=Cm (M:=1) (V:=1000) (by decide) (cu) (aj (show 1000<=2^10 by decide) (ar (by decide) (by decide))) (Fr.int h)
theorem uL {z:Int} (hz:z.natAbs<=2) (hc:Fr M W c) (h0:0 < M) (h1:M<=2^800) (hW:W<=2^140):oa ((z:Rat)*c):=by
 have h:=(Dg (M:=M) hz).mul hc;rw[FW] at h;refine Cm h0 (aj h1 (ar (by decide) (by decide))) (aj (cv 2 hW) ?_) h;rw[show 2*2^140=2^141 by rw[fE,cp]];exact ar (by decide) (by decide)
def fk (A:Addr->Prop) (b m:Addr) (H H':Hp):Prop:=∀c u,H c=some u->c≠b->¬A c->c≠m->H' c=some u
theorem fk.same (h:fk A b m H H1) (s:aF H1 H2):fk A b m H H2:=λc u e n1 n2 n3=>s _ _ (h c u e n1 n2 n3)
theorem fk.upto (h:fk A b m H H1) (s:cF b H1 H2):fk A b m H H2:=λc u e n1 n2 n3=>s.1 _ _ (h c u e n1 n2 n3) n1
theorem fk.upd (h:fk A b m H H1) (hq:A q\/q=m):fk A b m H (L2.upd H1 q o):=λc u e n1 n2 n3=>by
 rw[a7]
 ·exact h c u e n1 n2 n3
 ·rintro rfl;rcases hq with hq | hq
  ·exact n2 hq
  ·exact n3 hq
theorem fk.new (h:fk A b m H H1) (hA:∀q,H q=none->A q) (B:fR H1 b) (hm:H1 m≠none) (hr:H1 r=none):A r:=by
 by_cases z:A r
 ·exact z
 ·cases e:H r with
  | none=>exact hA r e
  | some u =>
   have:=h r u e (λy=>B.at (by rw[<- y];exact hr)) z (λy=>hm (by rw[<- y];exact hr));rw[hr] at this;cases this
structure Dz (K:FG9) (A:Addr->Prop) (n:Nat) (C:Rat->Prop) (r p b q0:Addr) (us:List V) (H0 H:Hp):Prop where
 gr:H r=some (.lst us)
 ru:∀x∈us,dX K A H n C x
 rp:dX K A H n C (.ref p)
 bag:fR H b
 inn:Inner H b q0
 up:cF b H0 H
section
variable {K:FG9} {A:Addr->Prop} {n:Nat} {C:Rat->Prop} {r p b q0:Addr} {us:List V} {H0 H H':Hp} {y:Rat} {v:V}
theorem Dz.same (h:Dz K A n C r p b q0 us H0 H) (e:aF H H'):Dz K A n C r p b q0 us H0 H':=⟨e _ _ h.gr,λx hx=>(h.ru x hx).same e,h.rp.same e,h.bag.same e,(e.upto (p:=b)).2 _ h.inn,h.up.same e⟩
theorem Dz.upto (h:Dz K A n C r p b q0 us H0 H) (u:cF b H H') (B:fR H' b) (nb:¬A b) (rb:r≠b):Dz K A n C r p b q0 us H0 H':=⟨u.other rb h.gr,λx hx=>(h.ru x hx).upto u h.bag nb,h.rp.upto u h.bag nb,B,u.2 _ h.inn,h.up.trans u⟩
theorem Dz.put (h:Dz K A n C r p b q0 us H0 H) (ap:A p) (nr:¬A r) (nb:¬A b) (nq:¬A q0) (hp:H0 p=none) (hv:bX K H y v) (hc:C y) (j:Nat):∃zs,H p=some (.lst zs)/\zs.length=n/\Dz K A n C r p b q0 us H0 (upd H p (.lst (zs.set j v))):=by
 obtain ⟨q,zs,qs,e,a,g,l,_⟩:=h.rp.at;cases e;have ne:∀{z},¬A z->z≠p:=λh e=>h (by rw[e];exact ap)
 exact ⟨zs,g,l,by rw[a7 (ne nr)];exact h.gr,λx hx=>(h.ru x hx).put g hv hc j,h.rp.put g hv hc j,h.bag.upd h.inn (ne nb).symm (ne nq).symm,h.inn.upd (ne nb).symm,h.up.after hp⟩
end
theorem vd {K:FG9} (h:∀x∈us,dX K A H n C x):∃rows:LR9,Paired (λqs x=>∃q,x=V.ref q/\A q/\dg K H q qs) rows us/\rows.length=us.length/\∀qs∈rows,qs.length=n/\∀y∈qs,C y:=by
 induction us with
 | nil=>exact ⟨[],.nil,rfl,λ_ z=>nomatch z⟩
 | cons u us ih =>
  obtain ⟨rows,pr,l,hr⟩:=ih λx hx=>h x (.tail _ hx)
  obtain ⟨q,qs,e,a,r,l1,c⟩:=h u (.head _);refine ⟨qs :: rows,.cons ⟨q,e,a,r⟩ pr,by simp [l],λzs hz=>?_⟩;rcases aE.mp hz with rfl | hz
  ·exact ⟨l1,c⟩
  ·exact hr zs hz
theorem BP {K:FG9} {rows:LR9} (pr:Paired (λqs x=>∃q,x=V.ref q/\A q/\dg K H q qs) rows us) (h:∀qs∈rows,qs.length=n/\∀y∈qs,C y):∀x∈us,dX K A H n C x:=λx hx=>by
 obtain ⟨qs,hq,q,e,a,r⟩:=cC pr hx;exact ⟨q,qs,e,a,r,(h qs hq).1,(h qs hq).2⟩
theorem yi {n:Nat}:∀{rows:LR9},(∀xs∈rows,xs.length=n)->rows.flatten.length=rows.length*n
 | [],_=>by simp
 | xs :: rows,h=>by
  rw[gN,aw,h xs (.head _),yi λys hy=>h ys (.tail _ hy),bq,j3,uF]
theorem GB {rows:LR9} (h:∀qs∈rows,qs.length=n/\∀y∈qs,Dr (2^c) y):∃M:Nat,0 < M/\M<=2^(c*(rows.length*n))/\∀qs∈rows,∀y∈qs,Fr M (2^c) y:=by
 have fl:rows.flatten.length=rows.length*n:=yi λys hy=>(h ys hy).1
 have hm:∀a∈rows.flatten.map (·.den),0 < a/\a<=2^c:=λa ha=>by
  obtain ⟨y,hy,rfl⟩:=ay.mp ha;obtain ⟨qs,hq,hy⟩:=List.mem_flatten.mp hy;exact ⟨y.den_pos,((h qs hq).2 y hy).2⟩
 refine ⟨xU (rows.flatten.map (·.den)),xS λa ha=>(hm a ha).1,?_,λqs hq y hy=>?_⟩
 ·have:=A2 (k:=c) (l:=rows.flatten.map (·.den)) λa ha=>(hm a ha).2
  rwa [ag,fl] at this
 ·exact (Fr.own y ((h qs hq).2 y hy).1).dvd (xT (ay.mpr ⟨y,List.mem_flatten.mpr ⟨qs,hq,hy⟩,rfl⟩))
theorem ic {K:FG9} (h:LF K A H n C p m) (w:∀q,A q->H0 q=none):∃rows,bg K H0 H p rows/\rows.length=m/\∀qs∈rows,qs.length=n/\∀y∈qs,C y:=by
 obtain ⟨us,g,l,a,r⟩:=h;obtain ⟨rows,pr,lr,hr⟩:=vd r;refine ⟨rows,⟨us,g,Paired.imp' (λ_ _ ⟨q,e,aq,rq⟩=>⟨q,e,w q aq,rq⟩) pr,λhm=>?_⟩,by rw[lr,l],hr⟩;obtain ⟨q,_,e,aq,_⟩:=r _ hm;cases e;exact a aq
theorem fk.trans (h:fk A b m H H1) (h':fk A b m H1 H2):fk A b m H H2:=λc u e n1 n2 n3=>h' c u (h c u e n1 n2 n3) n1 n2 n3
theorem EK {K:FG9} {rows:LR9} (pr:Paired (cA K H0 H) rows us) (h:∀qs∈rows,qs.length=n/\∀y∈qs,C y) (w:∀q,V.ref q∈us->H0 q=none->H q≠none->A q):∀x∈us,dX K A H n C x:=λx hx=>by
 obtain ⟨qs,hq,q,e,a,r⟩:=cC pr hx;subst e;exact ⟨q,qs,rfl,w q hx a (by obtain ⟨_,g,_⟩:=r;rw[g];simp),r,(h qs hq).1,(h qs hq).2⟩
def DL:Sp:=λvs H Q _=>∃b,vs=[.ref b]/\fR H b/\∀r (n i o w:Nat) H',H' r=some (.tup [.int n,.int i,.int o,.int w])->n<=5->i<=4->o<=4->(w=4\/w=9\/(w=1000000/\n<=2))->(n=5->i<=2/\o<=2)->fR H' b->cF b H H'->Q (.ref r) H'
def fv (K:FG9) (H0 H:Hp) (r:Addr) (mv pt lk:LR9):Prop:=∃m p l,H r=some (.tup [.ref m,.ref p,.ref l])/\H0 m=none/\H0 p=none/\H0 l=none/\bg K H0 H m mv/\bg K H0 H p pt/\bg K H0 H l lk
section
variable {K:FG9} {H H' H0 H1:Hp} {r b:Addr} {mv pt lk:LR9}
theorem fv.same (h:fv K H0 H r mv pt lk) (e:aF H H'):fv K H0 H' r mv pt lk:=by obtain ⟨m,p,l,g,n1,n2,n3,g1,g2,g3⟩:=h;exact ⟨m,p,l,e _ _ g,n1,n2,n3,g1.same e,g2.same e,g3.same e⟩
theorem fv.upto (h:fv K H0 H r mv pt lk) (u:cF b H H') (B:fR H b) (nb:H0 b≠none):fv K H0 H' r mv pt lk:=by
 obtain ⟨m,p,l,g,n1,n2,n3,g1,g2,g3⟩:=h;exact ⟨m,p,l,u.tup B g,n1,n2,n3,g1.upto u B (λz=>nb (by rw[<- z];exact n1)) nb,g2.upto u B (λz=>nb (by rw[<- z];exact n2)) nb,g3.upto u B (λz=>nb (by rw[<- z];exact n3)) nb⟩
theorem fv.weak (h:fv K H0 H r mv pt lk) (e:∀q,H0 q=none->H1 q=none):fv K H1 H r mv pt lk:=by
 obtain ⟨m,p,l,g,n1,n2,n3,⟨x1,y1,z1,w1⟩,⟨x2,y2,z2,w2⟩,⟨x3,y3,z3,w3⟩⟩:=h;exact ⟨m,p,l,g,e _ n1,e _ n2,e _ n3,⟨x1,y1,Paired.imp' (λ_ _ ⟨q,a,b,c⟩=>⟨q,a,e _ b,c⟩) z1,w1⟩,⟨x2,y2,Paired.imp' (λ_ _ ⟨q,a,b,c⟩=>⟨q,a,e _ b,c⟩) z2,w2⟩,⟨x3,y3,Paired.imp' (λ_ _ ⟨q,a,b,c⟩=>⟨q,a,e _ b,c⟩) z3,w3⟩⟩
end
inductive uN (K:FG9) (C:Addr) (vs:List V) (H:Hp) (Q:VK) (E9:XK):Prop
 | mk (r:Addr) (H0:Hp) (mv pt lk:LR9):vs=[.ref r]->fv K H0 H r mv pt lk->kC mv pt lk->yO mv pt lk->(∀x H',H x=none->aF H H'->p5 K H H' C x mv pt lk->Q (.ref x) H')->uN K C vs H Q E9
def rK (k j:Nat) (l:List Rat):Prop:=∃M V:Nat,0 < M/\M<=2^k/\V<=2^j/\∀x∈l,Fr M V x
section
variable {k j k' j':Nat} {l xs ys:List Rat} {x y:Rat}
theorem rK.szn (h:rK k j l) (hx:x∈l) (hk:k+j<=3950:=by decide):oa x:=by
 obtain ⟨M,V,h0,h1,h2,h3⟩:=h;obtain ⟨a,b⟩:=(h3 x hx).sz h0 h1 h2;exact ⟨a.mono (by lia),b.mono (by lia)⟩
theorem rK.rowM (h:rK k j l) (hk:k+j<=4200:=by decide):∃M,Ct M (l.map nm):=by
 obtain ⟨M,V,h0,h1,h2,h3⟩:=h;refine ⟨M,by lia,?_,λn hn=>?_⟩
 ·show ((M:Nat):Int).natAbs < 2^4400
  rw[cB];exact aV h1 (dH (by decide) (by lia))
 ·obtain ⟨x,hx,rfl⟩:=ay.mp hn;obtain ⟨a,_⟩:=(h3 x hx).sz h0 h1 h2;exact ⟨eV x,(h3 x hx).den,a.mono (by lia)⟩
theorem rK.one (h:rK k j l) (hx:x∈l):rK k j [x]:=by
 obtain ⟨M,V,h0,h1,h2,h3⟩:=h;exact ⟨M,V,h0,h1,h2,λy hy=>by rw[b8.mp hy];exact h3 x hx⟩
theorem FH (h:rK k j xs) (h':rK k' j' ys) (hl:xs.length<=1000) (i:Nat) (hk:(k+k')+(j+j')<=3930:=by decide):oa (eh (xs.take i) (ys.take i)):=by
 obtain ⟨M,V,h0,h1,h2,h3⟩:=h;obtain ⟨N,W,k0,k1,k2,k3⟩:=h'
 have e:1000*(V*W)<=2^(10+(j+j')):=by
  rw[bI 2 10];exact aP (by decide) (aj (aP h2 k2) (by rw[<- bI];exact ao _))
 obtain ⟨a,b⟩:=((Fr.dot (λx hx=>h3 x (cL hx)) (λy hy=>k3 y (cL hy))).mono (aB _ (show (xs.take i).length<=1000 by rw[cQ];lia))).sz (cD h0 k0) (aj (aP h1 k1) (by rw[<- bI];exact ao _)) e;exact ⟨a.mono (by lia),b.mono (by lia)⟩
theorem E4 (hx:rK k j [x]) (hy:rK k' j' [y]) (hk:(k+k')+(j+j')<=3930:=by decide):oa (x*y):=by
 obtain ⟨M,V,h0,h1,h2,h3⟩:=hx;obtain ⟨N,W,k0,k1,k2,k3⟩:=hy;obtain ⟨a,b⟩:=((h3 x (.head _)).mul (k3 y (.head _))).sz (cD h0 k0) (aj (aP h1 k1) (by rw[<- bI];exact ao _)) (aj (aP h2 k2) (by rw[<- bI];exact ao _));exact ⟨a.mono (by lia),b.mono (by lia)⟩
def xA (xs ys:List Rat):Prop:=∃k j k' j':Nat,rK k j xs/\rK k' j' ys/\(k+k')+(j+j')<=3930
end
def Kk (mv pt lk:LR9):Prop:=∃M V:Nat,0 < M/\M<=2^400/\V<=2^120/\GF M V mv/\GF M V pt/\GF M V lk
section
variable {mv pt lk:LR9}
theorem Kk.sf (h:Kk mv pt lk):yO mv pt lk:=by obtain ⟨M,V,a,b,c,d⟩:=h;exact ⟨M,V,a,aj b (ar (by decide) (by decide)),aj c (ar (by decide) (by decide)),d⟩
end
inductive y8 (K:FG9) (vs:List V) (H:Hp) (Q:VK) (E9:XK):Prop
 | mk (p q:Addr) (xs ys:List Rat):vs=[.ref p,.ref q]->dg K H p xs->dg K H q ys->ys.length=xs.length->xs.length<=1000->xA xs ys->(∀r H',aF H H'->bX K H' (eh xs ys) (.ref r)->Q (.ref r) H')->y8 K vs H Q E9
inductive y7 (K:FG9) (vs:List V) (H:Hp) (Q:VK) (E9:XK):Prop
 | mk (p q:Addr) (H0:Hp) (rows:LR9) (ys:List Rat):vs=[.ref p,.ref q]->bg K H0 H p rows->dg K H q ys->rows.length<=1000->ys.length<=1000->((∀xs∈rows,xs.length=ys.length/\xA xs ys))->(∀r H',H r=none->aF H H'->dg K H' r (rows.map λxs=>eh xs ys)->Q (.ref r) H')->y7 K vs H Q E9
section
variable {mv pt lk pus:LR9} {st:List Rat} {k:Nat}
end
def LL (N:Addr->Prop) (B:Nat) (H:Hp) (p:Addr) (xs:List V):Prop:=H p=some (.lst xs)/\∀x∈xs,∃q zs,x=V.ref q/\N q/\q≠p/\H q=some (.lst zs)/\zs.length<=B
theorem LL.of {K:FG9} (h:bg K H0 H p rows) (hB:∀xs∈rows,xs.length<=B) (hN:∀q,H0 q=none->H q≠none->N q):∃xs,LL N B H p xs/\xs.length=rows.length:=by
 obtain ⟨xs,g,r,nn⟩:=h;refine ⟨xs,⟨g,λx hx=>?_⟩,r.length.symm⟩;obtain ⟨qs,hq,q,e,nq,zs,gq,rq⟩:=cC r hx;exact ⟨q,zs,e,hN q nq (by rw[gq];exact λz=>nomatch z),λz=>nn (by rw[<- z,<- e];exact hx),gq,by rw[<- rq.length];exact hB qs hq⟩
theorem LL.upd {N:Addr->Prop} {B B':Nat} {H:Hp} {p q:Addr} {xs ws:List V} (h:LL N B H p xs) (n:q≠p) (hb:B<=B') (hw:ws.length<=B'):LL N B' (upd H q (.lst ws)) p xs:=by
 refine ⟨by rw[a7 (Ne.symm n)];exact h.1,λx hx=>?_⟩;obtain ⟨q',zs,e,a,b,g,l⟩:=h.2 x hx;by_cases z:q'=q
 ·subst z;exact ⟨q',ws,e,a,b,aH,hw⟩
 ·exact ⟨q',zs,e,a,b,by rw[a7 z];exact g,by lia⟩
theorem LL.same (h:LL N B H p xs) (e:aF H H'):LL N B H' p xs:=⟨e _ _ h.1,λx hx=>let ⟨q,zs,a,b,c,d,l⟩:=h.2 x hx;⟨q,zs,a,b,c,e _ _ d,l⟩⟩
theorem KU {i:Int} (h:i=0\/i=1):Fr 1 1 (i:Rat):=Fr.int (by rcases h with rfl | rfl <;> decide)
theorem il {α β:Type} {F:α->β->Prop}:∀{l1:List α} {l2:List β} (_:Paired F l1 l2) (k:Nat),Paired F (l1.drop k) (l2.drop k)
 | _,_,h,0=>h
 | _,_,.nil,_+1=>.nil
 | _,_,.cons _ r,k+1=>il r k
end L2
namespace L2
abbrev iJ:=Nat->Rat
def zT (F:List iJ->Rat) (r:Nat):List iJ->List iJ->Rat->Rat
 | _,[],_=>0
 | pre,v :: post,s=>s*v r*F (pre++post)+zT F r (pre++[v]) post (-s)
def p6:List Nat->List iJ->Rat
 | [],[]=>1
 | [],_ :: _=>0
 | r :: rs,vs=>zT (λws=>p6 rs ws) r [] vs 1
theorem Ac:p6 [] (a++x :: b)=0:=by
 cases a <;> rfl
theorem zS {F:List iJ->Rat} {r:Nat} {f g h:iJ} {x y:Rat} (hF:∀a b,F (a++h :: b)=x*F (a++f :: b)+y*F (a++g :: b)):∀(b p q:List iJ) (s:Rat),zT F r (p++h :: q) b s=x*zT F r (p++f :: q) b s+y*zT F r (p++g :: q) b s
 | [],p,q,s=>by simp only[zT,oz,Rat.add_zero]
 | v :: b,p,q,s=>by
  have i1:=hF p (q++b);have i2:=zS (r:=r) hF b p (q++[v]) (-s);simp only[zT,bO,dB] at i1 i2 ⊢;rw[i1,i2];grind
theorem C3 {F:List iJ->Rat} {r:Nat} {f g h:iJ} {x y:Rat} (hF:∀a b,F (a++h :: b)=x*F (a++f :: b)+y*F (a++g :: b)) (hr:h r=x*f r+y*g r):∀(a pre b:List iJ) (s:Rat),zT F r pre (a++h :: b) s=x*zT F r pre (a++f :: b) s+y*zT F r pre (a++g :: b) s
 | [],pre,b,s=>by
  have i2:=zS (r:=r) hF b pre [] (-s);simp only[zT,cx] at i2 ⊢;rw[i2,hr];grind
 | v :: a,pre,b,s=>by
  have i1:=hF (pre++a) b;have i2:=C3 hF hr a (pre++[v]) b (-s);simp only[zT,bO,dB] at i1 i2 ⊢;rw[i1,i2];grind
theorem p4 {f g h:iJ} {x y:Rat}:∀{rs:List Nat},(∀r∈rs,h r=x*f r+y*g r)->∀a b,p6 rs (a++h :: b)=x*p6 rs (a++f :: b)+y*p6 rs (a++g :: b)
 | [],_,a,b=>by rw[Ac,Ac,Ac];grind
 | r :: rs,hr,a,b=>C3 (λa b=>p4 (λr' h'=>hr r' (.tail _ h')) a b) (hr r (.head _)) a [] b 1
theorem Dk (hr:∀r∈rs,h r=0) (a b:List iJ):p6 rs (a++h :: b)=0:=by
 rw[p4 (f:=h) (g:=h) (x:=0) (y:=0) (λr h'=>by rw[hr r h'];grind) a b];grind
theorem C4 {F:List iJ->Rat} {r:Nat} {x:iJ} (hF:∀a b,F (a++x :: x :: b)=0):∀(b p q:List iJ) (s:Rat),zT F r (p++x :: x :: q) b s=0
 | [],p,q,s=>rfl
 | v :: b,p,q,s=>by
  have i1:=hF p (q++b);have i2:=C4 (r:=r) hF b p (q++[v]) (-s);simp only[zT,bO,dB] at i1 i2 ⊢;rw[i1,i2];grind
theorem C5 {F:List iJ->Rat} {r:Nat} {x:iJ} (hF:∀a b,F (a++x :: x :: b)=0):∀(a pre b:List iJ) (s:Rat),zT F r pre (a++x :: x :: b) s=0
 | [],pre,b,s=>by
  have i2:=C4 (r:=r) hF b pre [] (- -s);simp only[zT,cx,bO,dB] at i2 ⊢;rw[i2];grind
 | v :: a,pre,b,s=>by
  have i1:=hF (pre++a) b;have i2:=C5 (r:=r) hF a (pre++[v]) b (-s);simp only[zT,bO,dB] at i1 i2 ⊢;rw[i1,i2];grind
theorem vV {x:iJ}:∀{rs:List Nat} (a b:List iJ),p6 rs (a++x :: x :: b)=0
 | [],a,b=>Ac
 | r :: rs,a,b=>C5 (λa b=>vV a b) a [] b 1
theorem HP (a b:List iJ):p6 rs (a++x :: y :: b)=- p6 rs (a++y :: x :: b):=by
 have hr:∀r∈rs,(λr=>1*x r+1*y r) r=1*x r+1*y r:=λ_ _=>rfl
 have h0:=vV (x:=λr=>1*x r+1*y r) (rs:=rs) a b;have h1:=p4 hr a ((λr=>1*x r+1*y r) :: b);have h2:=p4 hr (a++[x]) b;have h3:=p4 hr (a++[y]) b;have h4:=vV (x:=x) (rs:=rs) a b;have h5:=vV (x:=y) (rs:=rs) a b;simp only[bO,dB,cx] at h0 h1 h2 h3 h4 h5;rw[h1,h2,h3,h4,h5] at h0;grind
theorem Ad {x:iJ} {rs:List Nat}:∀(b a c:List iJ),p6 rs (a++x :: (b++x :: c))=0
 | [],a,c=>vV a c
 | y :: b,a,c=>by
  have:=Ad (x:=x) (rs:=rs) b (a++[y]) c;simp only[bO,dB,cx] at this;rw[dB,HP,this];rfl
def bS:Nat->(Nat->Rat)->Rat
 | 0,_=>0
 | k+1,f=>bS k f+f k
theorem bw {f g:Nat->Rat}:∀{k:Nat},(∀j,j < k->f j=g j)->bS k f=bS k g
 | 0,_=>rfl
 | k+1,h=>by
  show bS k f+f k=bS k g+g k
  rw[bw λj hj=>h j (by lia),h k (by lia)]
theorem mW {f g:Nat->Rat}:∀{k:Nat},bS k (λj=>f j+g j)=bS k f+bS k g
 | 0=>by show (0:Rat)=0+0;grind
 | k+1=>by
  show bS k (λj=>f j+g j)+_=(bS k f+f k)+(bS k g+g k)
  rw[mW];grind
theorem dM {f:Nat->Rat} {c:Rat}:∀{k:Nat},bS k (λj=>c*f j)=c*bS k f
 | 0=>by show (0:Rat)=c*0;grind
 | k+1=>by
  show bS k (λj=>c*f j)+_=c*(bS k f+f k)
  rw[dM];grind
theorem c5 {f:Nat->Rat}:∀{k:Nat},(∀j,j < k->f j=0)->bS k f=0
 | 0,_=>rfl
 | k+1,h=>by
  show bS k f+f k=0
  rw[c5 λj hj=>h j (by lia),h k (by lia)];grind
theorem dD {f:Nat->Rat} {i:Nat}:∀{k:Nat},i < k->(∀j,j < k->j≠i->f j=0)->bS k f=f i
 | k+1,hi,h=>by
  show bS k f+f k=f i
  by_cases e:i=k
  ·subst e;rw[c5 λj hj=>h j (by lia) (by lia)];grind
  ·rw[dD (by lia) λj hj=>h j (by lia),h k (by lia) (λz=>e z.symm)];grind
theorem kE {f:Nat->Nat->Rat} {m:Nat}:∀{k:Nat},bS k (λi=>bS m (f i))=bS m (λj=>bS k λi=>f i j)
 | 0=>(c5 λ_ _=>rfl).symm
 | k+1=>by
  show bS k (λi=>bS m (f i))+bS m (f k)=bS m (λj=>bS k (λi=>f i j)+f k j)
  rw[kE,mW]
theorem Cp {rs:List Nat} {W:iJ} {v:Nat->iJ} {c:Nat->Rat} (a b:List iJ):∀{k:Nat} {W:iJ},(∀r∈rs,W r=bS k λj=>c j*v j r)->p6 rs (a++W :: b)=bS k λj=>c j*p6 rs (a++v j :: b)
 | 0,W,h=>Dk h a b
 | k+1,W,h=>by
  rw[p4 (f:=λr=>bS k λj=>c j*v j r) (g:=v k) (x:=1) (y:=c k) (λr hr=>by rw[h r hr];show bS k _+_=_;grind) a b,Cp a b (k:=k) (W:=λr=>bS k λj=>c j*v j r) λr _=>rfl];show _=bS k _+_
  grind
end L2
namespace L2
open Nm
def Ap (f:Nat->Nat):Nat->List Nat
 | 0=>[]
 | k+1=>f k :: Ap f k
def oZ (v:Nat->iJ):Nat->List iJ
 | 0=>[]
 | k+1=>v k :: oZ v k
def FL (v:Nat->iJ) (i:Nat):Nat->List iJ
 | 0=>[]
 | k+1=>if k<=i then [] else v k :: FL v i k
theorem sC {f:Nat->Nat}:∀{k:Nat},(Ap f k).length=k
 | 0=>rfl
 | k+1=>by show (Ap f k).length+1=_;rw[sC]
theorem cw_len {v:Nat->iJ}:∀{k:Nat},(oZ v k).length=k
 | 0=>rfl
 | k+1=>by show (oZ v k).length+1=_;rw[cw_len]
theorem nG {f:Nat->Nat} {r:Nat}:∀{k:Nat},r∈Ap f k->∃t,t < k/\r=f t
 | k+1,h=>by
  rcases aE.mp h with h | h
  ·exact ⟨k,by lia,h⟩
  ·obtain ⟨t,a,b⟩:=nG h;exact ⟨t,by lia,b⟩
theorem ve {f g:Nat->Nat}:∀{k:Nat},(∀j,j < k->f j=g j)->Ap f k=Ap g k
 | 0,_=>rfl
 | k+1,h=>by
  show f k :: Ap f k=g k :: Ap g k
  rw[h k (by lia),ve λj hj=>h j (by lia)]
theorem cw_congr {f g:Nat->iJ}:∀{k:Nat},(∀j,j < k->f j=g j)->oZ f k=oZ g k
 | 0,_=>rfl
 | k+1,h=>by
  show f k :: oZ f k=g k :: oZ g k
  rw[h k (by lia),cw_congr λj hj=>h j (by lia)]
theorem cw_mem {v:Nat->iJ} {j:Nat}:∀{k:Nat},j < k->v j∈oZ v k
 | k+1,h=>by
  by_cases e:j=k
  ·subst e;exact .head _
  ·exact .tail _ (cw_mem (by lia))
theorem cw_in {v:Nat->iJ} {x:iJ}:∀{k:Nat},x∈oZ v k->∃t,t < k/\x=v t
 | k+1,h=>by
  rcases aE.mp h with h | h
  ·exact ⟨k,by lia,h⟩
  ·obtain ⟨t,a,b⟩:=cw_in h;exact ⟨t,by lia,b⟩
theorem FK {v:Nat->iJ} {i j:Nat} (h1:i < j):∀{k:Nat},j < k->v j∈FL v i k
 | k+1,h=>by
  show v j∈if k<=i then [] else v k :: FL v i k
  rw[if_neg (by lia)];by_cases e:j=k
  ·subst e;exact .head _
  ·exact .tail _ (FK h1 (by lia))
theorem Ds {v:Nat->iJ} {i:Nat} {x:iJ}:∀{k:Nat},x∈FL v i k->∃t,t < k/\x=v t
 | k+1,h=>by
  have h:x∈if k<=i then [] else v k :: FL v i k:=h
  split at h
  ·cases h
  ·rcases aE.mp h with h | h
   ·exact ⟨k,by lia,h⟩
   ·obtain ⟨t,a,b⟩:=Ds h;exact ⟨t,by lia,b⟩
theorem cw_split {v:Nat->iJ} {i:Nat}:∀{k:Nat},i < k->oZ v k=FL v i k++v i :: oZ v i
 | k+1,h=>by
  show v k :: oZ v k=(if k<=i then [] else v k :: FL v i k)++_
  by_cases e:i=k
  ·subst e;rw[if_pos (ao _)];rfl
  ·rw[if_neg (by lia),cw_split (k:=k) (i:=i) (by lia)];rfl
theorem Ec {c:Nat->Rat} (hi:i < k) (hW:∀r∈rs,W r=bS k λj=>c j*v j r):p6 rs (FL v i k++W :: oZ v i)=c i*p6 rs (oZ v k):=by
 rw[Cp (v:=v) (c:=c) (W:=W) _ _ hW,dD hi λj hj ne=>?_,cw_split hi];rcases bR j i with h | h
 ·obtain ⟨s,t,e⟩:=BD (cw_mem (v:=v) h);rw[e,Ad];grind
 ·obtain ⟨s,t,e⟩:=BD (FK (v:=v) (show i < j by lia) hj);have:=Ad (x:=v j) (rs:=rs) t s (oZ v i);rw[e,bO,dB,this];grind
theorem Kf {c:Nat->Rat} (hW:∀r∈rs,W r=bS k λj=>c j*v j r):p6 rs (W :: oZ v k)=0:=by
 have:=Cp (v:=v) (c:=c) (W:=W) [] (oZ v k) hW;rw[cx] at this;rw[this];refine c5 λj hj=>?_
 obtain ⟨s,t,e⟩:=BD (cw_mem (v:=v) hj);have:=Ad (x:=v j) (rs:=rs) s [] t;rw[cx] at this;rw[e,cx,this];grind
theorem Eb {c:Nat->Rat} (hi:i∉rs) (h1:W i=bS k (λj=>c j*v j i)+s) (hW:∀r∈rs,W r=bS k λj=>c j*v j r):p6 (i :: rs) (W :: oZ v k)=s*p6 rs (oZ v k):=by
 have e:=p4 (rs:=i :: rs) (h:=W) (f:=λr=>bS k λj=>c j*v j r) (g:=λr=>if r=i then 1 else 0) (x:=1) (y:=s) (λr hr=>by
  rcases aE.mp hr with rfl | hr
  ·rw[h1,if_pos rfl];grind
  ·rw[hW r hr,if_neg (λz=>hi (by rw[<- z];exact hr))];grind) [] (oZ v k)
 rw[cx,cx,cx,Kf (c:=c) λr _=>rfl] at e
 have e2:p6 (i :: rs) ((λr=>if r=i then (1:Rat) else 0) :: oZ v k)=p6 rs (oZ v k):=by
  show 1*(if i=i then (1:Rat) else 0)*p6 rs ([]++oZ v k)+zT (λws=>p6 rs ws) i ([]++[λr=>if r=i then (1:Rat) else 0]) (oZ v k) (-1)=_
  have hF:∀a b,(λws=>p6 rs ws) (a++(λr=>if r=i then (1:Rat) else 0) :: b)=0*(λws=>p6 rs ws) (a++(λr=>if r=i then (1:Rat) else 0) :: b)+0*(λws=>p6 rs ws) (a++(λr=>if r=i then (1:Rat) else 0) :: b):=λa b=>by
   have:=Dk (h:=λr=>if r=i then (1:Rat) else 0) (rs:=rs) (λr hr=>if_neg λz=>hi (by rw[<- z];exact hr)) a b
   dsimp only
   rw[this];grind
  have:=zS (r:=i) hF (oZ v k) [] [] (-1);rw[this,if_pos rfl,cx];grind
 rw[e2] at e;rw[e];grind
theorem IC {F:List iJ->Rat} {r B W:Nat}:∀{post pre:List iJ} {s:Rat},(∀ws,(∀w∈ws,w∈pre++post)->ws.length+1=(pre++post).length->Fr 1 B (F ws))->(∀w∈post,Fr 1 W (w r))->Fr 1 1 s->Fr 1 (post.length*(W*B)) (zT F r pre post s)
 | [],pre,s,_,_,_=>by show Fr 1 _ 0;exact Fr.zero
 | v :: post,pre,s,hF,hw,hs=>by
  have t1:Fr 1 (W*B) (s*v r*F (pre++post)):=by
   have:=(hs.mul (hw v (.head _))).mul (hF (pre++post) (λw h=>by
    rcases ax.mp h with h | h
    ·exact mQ _ h
    ·exact bG _ (.tail _ h)) (by simp only[aw,bq];lia))
   simpa using this
  have t2:=IC (F:=F) (r:=r) (B:=B) (W:=W) (post:=post) (pre:=pre++[v]) (s:=-s) (λws h h'=>hF ws (λw hw=>by simpa using h w hw) (by simpa using h')) (λw h=>hw w (.tail _ h)) (by simpa using hs.neg);exact (t1.add t2).mono (by rw[bq,j3];lia)
theorem yj {W N:Nat}:∀{rs:List Nat} {vs:List iJ},vs.length<=N->(∀v∈vs,∀r∈rs,Fr 1 W (v r))->Fr 1 ((N*W)^rs.length) (p6 rs vs)
 | [],[],_,_=>by show Fr 1 1 1;exact (Fr.int (i:=1) (by decide))
 | [],_ :: _,_,_=>by show Fr 1 _ 0;exact Fr.zero
 | r :: rs,vs,hl,h=>by
  have:=IC (F:=λws=>p6 rs ws) (r:=r) (B:=(N*W)^rs.length) (W:=W) (post:=vs) (pre:=[]) (s:=1) (λws h1 h2=>yj (by rw[cx] at h2;lia) λv hv r' hr'=>h v (by simpa using h1 v hv) r' (.tail _ hr')) (λw hw=>h w hw r (.head _)) (Fr.int (i:=1) (by decide));refine this.mono ?_;rw[bq,fE,cp ((N*W)^rs.length),cb N];exact aB _ hl
structure rM (a:Nat->Nat->Rat) (m k:Nat) (pm p:Nat->Nat) (l:Nat->Nat->Rat) (d:Rat):Prop where
 inj:∀i j,i < m->j < m->pm i=pm j->i=j
 rng:∀i,i < m->pm i < m
 km:k<=m
 d0:d≠0
 det:d=p6 (Ap pm k) (oZ (λj r=>a r (p j)) k)
 eqs:∀i,i < m->∀c,d*a (pm i) c=bS k (λj=>a (pm i) (p j)*l j c)+if i < k then 0 else l i c
 unit:∀i,i < m->∀j,j < k->l i (p j)=if i=j then d else 0
section
variable {a l:Nat->Nat->Rat} {m k:Nat} {pm p:Nat->Nat} {d:Rat}
theorem rM.start (h:∀i,i < m->pm i=i):rM a m 0 pm p a 1 where
 inj i j hi hj e:=by rw[h i hi,h j hj] at e;exact e
 rng i hi:=by rw[h i hi];exact hi
 km:=bo _
 d0:=by decide
 det:=rfl
 eqs i hi c:=by
  rw[h i hi,if_neg (by lia)];show 1*a i c=0+a i c
  grind
 unit i _ j hj:=absurd hj (by lia)
theorem rM.coef (B:rM a m k pm p l d) (hi:i < m):a (pm i) c=bS k (λj=>(l j c / d)*a (pm i) (p j))+if i < k then 0 else l i c / d:=by
 have h:=B.eqs i hi c;have d0:=B.d0
 have e:bS k (λj=>(l j c / d)*a (pm i) (p j))=(1 / d)*bS k (λj=>a (pm i) (p j)*l j c):=by
  rw[<- dM];exact bw λj _=>by grind
 rw[e]
 split at h
 ·rw[if_pos (by assumption)];grind
 ·rw[if_neg (by assumption)];grind
theorem rM.old (B:rM a m k pm p l d) (hi:i < k):l i c=p6 (Ap pm k) (FL (λj r=>a r (p j)) i k++(λr=>a r c) :: oZ (λj r=>a r (p j)) i):=by
 have km:=B.km;have d0:=B.d0;rw[Ec (v:=λj r=>a r (p j)) (c:=λj=>l j c / d) hi λr hr=>?_,<- B.det]
 ·grind
 ·obtain ⟨t,ht,rfl⟩:=nG hr;have:=B.coef (i:=t) (c:=c) (by lia);rw[if_pos ht] at this;rw[this];grind
theorem rM.new (B:rM a m k pm p l d) (h1:k<=i) (hi:i < m):l i c=p6 (pm i :: Ap pm k) ((λr=>a r c) :: oZ (λj r=>a r (p j)) k):=by
 have km:=B.km;have d0:=B.d0
 have hn:pm i∉Ap pm k:=λhm=>by
  obtain ⟨t,ht,e⟩:=nG hm;have:=B.inj i t hi (by lia) e
  lia
 have e1:a (pm i) c=bS k (λj=>(l j c / d)*a (pm i) (p j))+l i c / d:=by
  have:=B.coef (i:=i) (c:=c) hi;rwa [if_neg (by lia)] at this
 have e2:∀r∈Ap pm k,a r c=bS k (λj=>(l j c / d)*a r (p j)):=λr hr=>by
  obtain ⟨t,ht,rfl⟩:=nG hr;have:=B.coef (i:=t) (c:=c) (by lia);rw[if_pos ht] at this;rw[this];grind
 rw[Eb (v:=λj r=>a r (p j)) (c:=λj=>l j c / d) (W:=λr=>a r c) (s:=l i c / d) hn e1 e2,<- B.det];grind
theorem rM.fr (B:rM a m k pm p l d) (hN:k < N) (hW:1<=W) (ha:∀i,i < m->∀c,Fr 1 W (a i c)) (hi:i < m):Fr 1 ((N*W)^(k+1)) (l i c):=by
 have km:=B.km;have mono:∀t,t<=k+1->(N*W)^t<=(N*W)^(k+1):=λt ht=>ar (cD (by lia) hW) ht
 have ha':∀r∈Ap pm k,∀c,Fr 1 W (a r c):=λr hr c=>by
  obtain ⟨t,ht,rfl⟩:=nG hr;exact ha _ (B.rng t (by lia)) c
 by_cases h:i < k
 ·rw[B.old h];refine (yj (W:=W) (N:=N) ?_ ?_).mono (mono _ (by rw[sC];lia))
  ·have:=congrArg List.length (cw_split (v:=λj r=>a r (p j)) h);rw[aw,bq,cw_len] at this;rw[aw,bq]
   lia
  ·intro v hv r hr;rcases ax.mp hv with hv | hv
   ·obtain ⟨t,_,rfl⟩:=Ds hv;exact ha' r hr _
   ·rcases aE.mp hv with rfl | hv
    ·exact ha' r hr _
    ·obtain ⟨t,_,rfl⟩:=cw_in hv;exact ha' r hr _
 ·rw[B.new (by lia) hi];refine (yj (W:=W) (N:=N) ?_ ?_).mono (mono _ (by rw[bq,sC];lia))
  ·rw[bq,cw_len]
   lia
  ·intro v hv r hr
   have hr':∀c,Fr 1 W (a r c):=λc=>by
    rcases aE.mp hr with rfl | hr
    ·exact ha _ (B.rng i hi) c
    ·exact ha' r hr c
   rcases aE.mp hv with rfl | hv
   ·exact hr' _
   ·obtain ⟨t,_,rfl⟩:=cw_in hv;exact hr' _
theorem rM.dfr (B:rM a m k pm p l d) (hN:k<=N) (ha:∀i,i < m->∀c,Fr 1 W (a i c)):Fr 1 ((N*W)^k) d:=by
 have km:=B.km;rw[B.det]
 have:=yj (W:=W) (N:=N) (rs:=Ap pm k) (vs:=oZ (λj r=>a r (p j)) k) (by rw[cw_len];exact hN) λv hv r hr=>by
  obtain ⟨t,ht,rfl⟩:=nG hr;obtain ⟨t',_,rfl⟩:=cw_in hv;exact ha _ (B.rng t (by lia)) _
 rwa [sC] at this
def gO (k t i:Nat):Nat:=if i=k then t else if i=t then k else i
theorem oG (hk:k < m) (ht:t < m) (hi:i < m):gO k t i < m:=by
 unfold gO
 split
 ·exact ht
 ·split
  ·exact hk
  ·exact hi
theorem Jg (h:gO k t i=gO k t j):i=j:=by
 unfold gO at h
 split at h <;> split at h <;> (try split at h) <;> (try split at h) <;> lia
theorem pH (h:k<=t) (hi:i < k):gO k t i=i:=by
 unfold gO;rw[if_neg (by lia),if_neg (by lia)]
theorem qh (h:k<=t) (hi:k<=i):k<=gO k t i:=by
 unfold gO
 split
 ·exact h
 ·split <;> lia
theorem rM.swap (B:rM a m k pm p l d) {t:Nat} (h:k<=t) (ht:t < m):rM a m k (λi=>pm (gO k t i)) p (λi=>l (gO k t i)) d where
 inj i j hi hj e:=Jg (B.inj _ _ (oG (by lia) ht hi) (oG (by lia) ht hj) e)
 rng i hi:=B.rng _ (oG (by lia) ht hi)
 km:=B.km
 d0:=B.d0
 det:=by rw[B.det,ve (f:=pm) (g:=λi=>pm (gO k t i)) λj hj=>by rw[pH h hj]]
 eqs i hi c:=by
  have e:=B.eqs (gO k t i) (oG (by lia) ht hi) c;have e1:bS k (λj=>a (pm (gO k t i)) (p j)*l (gO k t j) c)=bS k (λj=>a (pm (gO k t i)) (p j)*l j c):=bw λj hj=>by rw[pH h hj]
  rw[e1];by_cases hk:i < k
  ·rw[pH h hk] at e ⊢;exact e
  ·rw[if_neg hk];rw[if_neg (by have:=qh h (show k<=i by lia);lia)] at e;exact e
 unit i hi j hj:=by
  rw[B.unit _ (oG (by lia) ht hi) j hj];by_cases hk:i < k
  ·rw[pH h hk]
  ·have:=qh h (show k<=i by lia);rw[if_neg (by lia),if_neg (by lia)]
theorem rM.step (B:rM a m k pm p l d) {c0:Nat} (hk:k < m) (h0:l k c0≠0):rM a m (k+1) pm (λj=>if j=k then c0 else p j) (λi c=>if i=k then l k c else (l k c0*l i c - l i c0*l k c) / d) (l k c0) where
 inj:=B.inj
 rng:=B.rng
 km:=hk
 d0:=h0
 det:=by
  rw[B.new (ao _) hk];show _=p6 (pm k :: Ap pm k) ((λr=>a r (if k=k then c0 else p k)) :: oZ _ k)
  rw[if_pos rfl];congr 2;exact cw_congr λj hj=>by rw[if_neg (show j≠k by lia)]
 eqs i hi c:=by
  have d0:=B.d0;have e1:=B.eqs i hi c;have e2:=B.eqs i hi c0;show l k c0*a (pm i) c=(bS k _+_)+_
  have s1:bS k (λj=>a (pm i) (if j=k then c0 else p j)*(if j=k then l k c else (l k c0*l j c - l j c0*l k c) / d))=(l k c0 / d)*bS k (λj=>a (pm i) (p j)*l j c)+(- l k c / d)*bS k (λj=>a (pm i) (p j)*l j c0):=by
   rw[<- dM,<- dM,<- mW];refine bw λj hj=>?_
   rw[if_neg (show j≠k by lia),if_neg (show j≠k by lia)];grind
  rw[s1];simp only[if_true];generalize bS k (λj=>a (pm i) (p j)*l j c)=S1 at e1 ⊢;generalize bS k (λj=>a (pm i) (p j)*l j c0)=S2 at e2 ⊢;rcases eP i k with h | h | h
  ·rw[if_pos h] at e1 e2;rw[if_pos (by lia)];grind
  ·subst h;rw[if_neg (by lia)] at e1 e2;rw[if_pos (by lia)];grind
  ·rw[if_neg (by lia)] at e1 e2;rw[if_neg (by lia),if_neg (by lia)];grind
 unit i hi j hj:=by
  have d0:=B.d0;by_cases e:j=k
  ·subst e;simp only[if_true];by_cases ei:i=j
   ·rw[if_pos ei,if_pos ei]
   ·rw[if_neg ei,if_neg ei];grind
  ·have hj':j < k:=by lia
   rw[if_neg e];by_cases ei:i=k
   ·rw[if_pos ei,B.unit k hk j hj',if_neg (by lia),if_neg (by lia)]
   ·rw[if_neg ei,B.unit i hi j hj',B.unit k hk j hj',if_neg (show k≠j by lia)]
    split
    ·grind
    ·grind
end
def dP (m:Nat) (a:Nat->Nat->Rat) (x:Nat->Rat):Prop:=∃w:Nat->Rat,∀c,x c=bS m λt=>w t*a t c
section
variable {m m' k n:Nat} {a b:Nat->Nat->Rat} {x y:Nat->Rat}
theorem dP.row (hi:i < m):dP m a (a i):=⟨λt=>if t=i then 1 else 0,λc=>by
 rw[dD hi λj _ ne=>by dsimp only;rw[if_neg ne];grind]
 dsimp only
 rw[if_pos rfl];grind⟩
theorem dP.lin (α β:Rat) (hx:dP m a x) (hy:dP m a y):dP m a λc=>α*x c+β*y c:=by
 obtain ⟨w,hw⟩:=hx;obtain ⟨v,hv⟩:=hy;refine ⟨λt=>α*w t+β*v t,λc=>?_⟩
 dsimp only
 rw[hw c,hv c,<- dM,<- dM,<- mW];exact bw λj _=>by grind
theorem dP.congr (h:∀c,x c=y c) (hx:dP m a x):dP m a y:=by obtain ⟨w,hw⟩:=hx;exact ⟨w,λc=>by rw[<- h c];exact hw c⟩
theorem dP.trans (h:∀t,t < m'->dP m a (b t)) (hx:dP m' b x):dP m a x:=by
 obtain ⟨v,hv⟩:=hx
 have h2:∀t,∃w:Nat->Rat,t < m'->∀c,b t c=bS m λs=>w s*a s c:=λt=>by
  by_cases ht:t < m'
  ·obtain ⟨w,hw⟩:=h t ht;exact ⟨w,λ_=>hw⟩
  ·exact ⟨λ_=>0,λz=>absurd z ht⟩
 have hc:=Classical.axiomOfChoice h2;obtain ⟨w,hw⟩:=hc;refine ⟨λs=>bS m' λt=>v t*w t s,λc=>?_⟩;rw[hv c];have e1:bS m' (λt=>v t*b t c)=bS m' (λt=>bS m λs=>v t*(w t s*a s c)):=bw λt ht=>by rw[hw t ht c,<- dM]
 rw[e1,kE];refine bw λs _=>?_
 have:bS m' (λt=>v t*w t s)*a s c=a s c*bS m' (λt=>v t*w t s):=iC ..;rw[this,<- dM];exact bw λt _=>by grind
theorem dP.zero (h:∀c,x c=0):dP m a x:=⟨λ_=>0,λc=>by rw[h c,c5 λ_ _=>by grind]⟩
end
structure BB (m n:Nat) (a:Nat->Nat->Rat) (k:Nat) (p:Nat->Nat) (R:Nat->Nat->Rat):Prop where
 inc:∀i j,i < j->j < k->p i < p j
 low:∀j,j < k->p j < n
 unit:∀i,i < k->∀j,j < k->R i (p j)=if i=j then 1 else 0
 lead:∀i,i < k->∀c,c < p i->R i c=0
 span:∀i,i < m->dP k R (a i)
 back:∀i,i < k->dP m a (R i)
section
variable {m m' k k' n:Nat} {a a' R R':Nat->Nat->Rat} {p p':Nat->Nat} {x:Nat->Rat}
theorem BB.coef (h:BB m n a k p R) (hx:dP k R x) (c:Nat):x c=bS k λj=>x (p j)*R j c:=by
 obtain ⟨w,hw⟩:=hx;rw[hw c];refine bw λj hj=>?_
 rw[hw (p j),dD hj λt ht ne=>by rw[h.unit t ht j hj,if_neg ne];grind,h.unit j hj j hj,if_pos rfl];grind
theorem BB.lead_in (h:BB m n a k p R) (hx:dP k R x) (h1:x c≠0) (h0:∀c',c' < c->x c'=0):∃j,j < k/\p j=c:=by
 refine Classical.byContradiction λhn=>h1 ?_
 rw[h.coef hx c];refine c5 λj hj=>?_
 rcases eP (p j) c with z | z | z
 ·rw[h0 _ z];grind
 ·exact absurd ⟨j,hj,z⟩ hn
 ·rw[h.lead j hj c z];grind
theorem inc_le (h1:∀i j,i < j->j < k->p i < p j) (h2:∀i j,i < j->j < k'->p' i < p' j) (hs:∀j,j < k'->∃i,i < k/\p i=p' j):∀{j:Nat},j < k'->∀{i:Nat},i < k->p i=p' j->j<=i
 | 0,_,_,_,_=>bo _
 | j+1,hj,i,hi,e=>by
  obtain ⟨i0,hi0,e0⟩:=hs j (by lia);have:=inc_le h1 h2 hs (j:=j) (by lia) hi0 e0;have lt:=h2 j (j+1) (by lia) hj;rcases eP i0 i with z | z | z
  ·lia
  ·subst z;lia
  ·have:=h1 i i0 z hi0;lia
theorem Fm (h1:∀i j,i < j->j < k->p i < p j) (h:i<=j) (hj:j < k):p i<=p j:=by
 rcases bR i j with z | z
 ·exact aL (h1 i j z hj)
 ·have:i=j:=by lia
  rw[this];exact ao _
theorem Dc (h1:∀i j,i < j->j < k->p i < p j) (h2:∀i j,i < j->j < k'->p' i < p' j) (hs:∀j,j < k'->∃i,i < k/\p i=p' j):k'<=k/\∀j,j < k'->p j<=p' j:=by
 refine ⟨?_,λj hj=>?_⟩
 ·rcases pA k' with z | z
  ·lia
  ·obtain ⟨i,hi,e⟩:=hs (k' - 1) (by lia);have:=inc_le h1 h2 hs (j:=k' - 1) (by lia) hi e
   lia
 ·obtain ⟨i,hi,e⟩:=hs j hj;rw[<- e];exact Fm h1 (inc_le h1 h2 hs hj hi e) hi
theorem BB.uniq (h:BB m n a k p R) (h':BB m' n a' k' p' R') (s1:∀i,i < m->dP m' a' (a i)) (s2:∀i,i < m'->dP m a (a' i)):k=k'/\(∀j,j < k->p j=p' j)/\∀i,i < k->∀c,R i c=R' i c:=by
 have x1:∀i,i < k->dP k' R' (R i):=λi hi=>dP.trans (λt ht=>h'.span t ht) (dP.trans s1 (h.back i hi))
 have x2:∀i,i < k'->dP k R (R' i):=λi hi=>dP.trans (λt ht=>h.span t ht) (dP.trans s2 (h'.back i hi))
 have y1:∀j,j < k->∃i,i < k'/\p' i=p j:=λj hj=>h'.lead_in (x1 j hj) (by rw[h.unit j hj j hj,if_pos rfl];decide) (h.lead j hj)
 have y2:∀j,j < k'->∃i,i < k/\p i=p' j:=λj hj=>h.lead_in (x2 j hj) (by rw[h'.unit j hj j hj,if_pos rfl];decide) (h'.lead j hj)
 obtain ⟨z1,w1⟩:=Dc h'.inc h.inc y1;obtain ⟨z2,w2⟩:=Dc h.inc h'.inc y2;have ek:k=k':=Nat.le_antisymm z1 z2;subst ek;have ep:∀j,j < k->p j=p' j:=λj hj=>Nat.le_antisymm (w2 j hj) (w1 j hj)
 refine ⟨rfl,ep,λi hi c=>?_⟩;rw[h.coef (x2 i hi) c,dD hi λj hj ne=>by rw[ep j hj,h'.unit i hi j hj,if_neg (λz=>ne z.symm)];grind,ep i hi,h'.unit i hi i hi,if_pos rfl];grind
end
structure ij (a:Nat->Nat->Rat) (m k P:Nat) (p:Nat->Nat) (l:Nat->Nat->Rat) (d:Rat):Prop where
 km:k<=m
 d0:d≠0
 unit:∀i,i < m->∀j,j < k->l i (p j)=if i=j then d else 0
 inc:∀i j,i < j->j < k->p i < p j
 low:∀j,j < k->p j < P
 zero:∀i,k<=i->i < m->∀c,c < P->l i c=0
 lead:∀j,j < k->∀c,c < p j->l j c=0
 there:∀i,i < m->dP m l (a i)
 back:∀i,i < m->dP m a (l i)
section
variable {m k n P:Nat} {a l l':Nat->Nat->Rat} {p:Nat->Nat} {d d':Rat}
theorem ij.start:ij a m 0 0 p a 1 where
 km:=bo _
 d0:=by decide
 unit _ _ j hj:=absurd hj (by lia)
 inc _ j _ hj:=absurd hj (by lia)
 low j hj:=absurd hj (by lia)
 zero _ _ _ c hc:=absurd hc (by lia)
 lead j hj:=absurd hj (by lia)
 there i hi:=dP.row hi
 back i hi:=dP.row hi
theorem ij.skip (E:ij a m k P p l d) (h:∀i,k<=i->i < m->l i P=0):ij a m k (P+1) p l d :=
 ⟨E.km,E.d0,E.unit,E.inc,λj hj=>Nat.lt_succ_of_lt (E.low j hj),λi h1 h2 c hc=>by
  by_cases e:c=P
  ·rw[e];exact h i h1 h2
  ·exact E.zero i h1 h2 c (by lia),E.lead,E.there,E.back⟩
theorem KO:gO k t (gO k t i)=i:=by
 unfold gO
 split
 ·split <;> (try split) <;> lia
 ·split
  ·rw[if_pos rfl];lia
  ·rfl
theorem ij.swap (E:ij a m k P p l d) {t:Nat} (h:k<=t) (ht:t < m):ij a m k P p (λi=>l (gO k t i)) d where
 km:=E.km
 d0:=E.d0
 unit i hi j hj:=by
  rw[E.unit _ (oG (by lia) ht hi) j hj];by_cases hk:i < k
  ·rw[pH h hk]
  ·have:=qh h (show k<=i by lia);rw[if_neg (by lia),if_neg (by lia)]
 inc:=E.inc
 low:=E.low
 zero i h1 h2 c hc:=E.zero _ (qh h h1) (oG (by lia) ht h2) c hc
 lead j hj c hc:=by rw[pH h hj];exact E.lead j hj c hc
 there i hi:=dP.trans (λs hs=>dP.congr (λc=>by rw[KO]) (dP.row (a:=λi=>l (gO k t i)) (i:=gO k t s) (oG (by lia) ht hs))) (E.there i hi)
 back i hi:=E.back _ (oG (by lia) ht hi)
theorem ij.step (E:ij a m k P p l d) (hk:k < m) (h0:d'≠0) (unit':∀i,i < m->∀j,j < k+1->l' i (if j=k then P else p j)=if i=j then d' else 0)
  (hl:∀i,i < m->∃β γ:Rat,β≠0/\(i=k->γ=0)/\∀c,l' i c=β*l i c+γ*l k c):ij a m (k+1) (P+1) (λj=>if j=k then P else p j) l' d' where
 km:=hk
 d0:=h0
 unit:=unit'
 inc i j hij hj:=by
  by_cases e:j=k
  ·rw[if_pos e,if_neg (by lia)];exact E.low i (by lia)
  ·rw[if_neg e,if_neg (by lia)];exact E.inc i j hij (by lia)
 low j hj:=by
  by_cases e:j=k
  ·rw[if_pos e];lia
  ·rw[if_neg e];exact Nat.lt_succ_of_lt (E.low j (by lia))
 zero i h1 h2 c hc:=by
  by_cases e:c=P
  ·have:=unit' i h2 k (by lia);rw[if_pos rfl,if_neg (by lia)] at this;rw[e];exact this
  ·obtain ⟨β,γ,_,_,q⟩:=hl i h2;rw[q c,E.zero i (by lia) h2 c (by lia),E.zero k (ao _) hk c (by lia)];grind
 lead j hj c hc:=by
  have km:=E.km;obtain ⟨β,γ,_,_,q⟩:=hl j (by lia);by_cases e:j=k
  ·rw[if_pos e] at hc;rw[q c,e,E.zero k (ao _) hk c hc];grind
  ·rw[if_neg e] at hc;have:=E.low j (by lia);rw[q c,E.lead j (by lia) c hc,E.zero k (ao _) hk c (by lia)];grind
 there i hi:=by
  refine dP.trans (λs hs=>?_) (E.there i hi);obtain ⟨β,γ,b0,_,q⟩:=hl s hs;obtain ⟨βk,γk,bk0,gk,qk⟩:=hl k hk;have g0:=gk rfl;refine dP.congr (λc=>?_) (dP.lin (1 / β) (-(γ / β) / βk) (dP.row (a:=l') hs) (dP.row (a:=l') hk));rw[q c,qk c,g0];grind
 back i hi:=by
  obtain ⟨β,γ,_,_,q⟩:=hl i hi;exact dP.congr (λc=>(q c).symm) (dP.lin β γ (E.back i hi) (E.back k hk))
theorem ij.done (E:ij a m k n p l d) (ha:∀i,i < m->∀c,n<=c->a i c=0):BB m n a k p (λi c=>l i c / d) where
 inc:=E.inc
 low:=E.low
 unit i hi j hj:=by
  have d0:=E.d0;have km:=E.km;rw[E.unit i (by lia) j hj]
  split
  ·grind
  ·grind
 lead i hi c hc:=by
  rw[E.lead i hi c hc];grind
 span i hi:=by
  have d0:=E.d0;refine dP.trans (λs hs=>?_) (E.there i hi);by_cases z:s < k
  ·refine dP.congr (λc=>?_) (dP.lin d 0 (dP.row (a:=λi c=>l i c / d) z) (dP.row (a:=λi c=>l i c / d) z));grind
  ·refine dP.zero λc=>?_
   by_cases hc:c < n
   ·exact E.zero s (by lia) hs c hc
   ·obtain ⟨w,hw⟩:=E.back s hs;rw[hw c,c5 λt ht=>by rw[ha t ht c (by lia)];grind]
 back i hi:=by
  have km:=E.km;have d0:=E.d0;refine dP.congr (λc=>?_) (dP.lin (1 / d) 0 (E.back i (by lia)) (E.back i (by lia)));grind
end
def dn (ls:List (List Int)) (i c:Nat):Rat:=(((ls.getD i []).getD c 0:Int):Rat)
def b7 (rows:LR9) (i c:Nat):Rat:=(rows.getD i []).getD c 0
def kW (ls:List (List Int)) (k t:Nat):List (List Int):=(ls.set k (ls.getD t [])).set t (ls.getD k [])
def Bo (ls:List (List Int)) (k c:Nat) (b:Int):List (List Int):=(ls.map λzs=>List.zipWith (λx y=>((ls.getD k []).getD c 0*x - zs.getD c 0*y).fdiv b) zs (ls.getD k [])).set k (ls.getD k [])
section
variable {ls ls0:List (List Int)} {k t n P c:Nat} {b d:Int} {ps:List Nat}
theorem nQ {α:Type} {l:List α} {x e:α} (hi:i < l.length):(l.set i x).getD j e=if j=i then x else l.getD j e:=by
 rw[aa,aa,List.getElem?_set];by_cases h:j=i
 ·subst h;rw[if_pos rfl,if_pos hi,if_pos rfl];rfl
 ·rw[if_neg (λz=>h z.symm),if_neg h]
theorem rO:(kW ls k t).length=ls.length:=by unfold kW;rw[dR,dR]
theorem FP:(Bo ls k c b).length=ls.length:=by unfold Bo;rw[dR,ag]
theorem getD_in {α:Type} {l:List α} {e:α} (h:i < l.length):l.getD i e∈l:=by
 rw[aa,af h];exact aZ h
theorem CF (w:∀zs∈ls,zs.length=n) (hk:k < ls.length) (ht:t < ls.length):∀zs∈kW ls k t,zs.length=n:=λzs hz=>by
 unfold kW at hz;rcases bY hz with h | h
 ·rcases bY h with h | h
  ·exact w zs h
  ·rw[h];exact w _ (getD_in ht)
 ·rw[h];exact w _ (getD_in hk)
theorem Dv (w:∀zs∈ls,zs.length=n) (hk:k < ls.length):∀zs∈Bo ls k c b,zs.length=n:=λzs hz=>by
 unfold Bo at hz;rcases bY hz with h | h
 ·obtain ⟨y,hy,rfl⟩:=ay.mp h;rw[cR,w y hy,w _ (getD_in hk)]
  lia
 ·rw[h];exact w _ (getD_in hk)
theorem qN (hk:k < ls.length) (ht:t < ls.length) (i c:Nat):dn (kW ls k t) i c=dn ls (gO k t i) c:=by
 unfold dn kW gO;rw[nQ (by rw[dR];exact ht),nQ hk];by_cases h1:i=t
 ·rw[if_pos h1];by_cases h2:i=k
  ·rw[if_pos h2,<- h1,<- h2]
  ·rw[if_neg h2,if_pos h1]
 ·rw[if_neg h1];by_cases h2:i=k
  ·rw[if_pos h2,if_pos h2]
  ·rw[if_neg h2,if_neg h2,if_neg h1]
theorem vU (w:∀zs∈ls,zs.length=n) (hc:n<=c):dn ls i c=0:=by
 unfold dn;by_cases h:i < ls.length
 ·have:=w _ (getD_in (e:=[]) h);rw[aa (l:=ls.getD i []),be (by lia)];rfl
 ·rw[aa (l:=ls),be (by lia)];rfl
theorem nW {x:Int} (h:(x:Rat)=0):x=0:=by
 have:(x:Rat)=((0:Int):Rat):=h;exact cZ.mp this
theorem Co {x b:Int} (hb:b≠0) (hq:∃z:Int,q=(z:Rat)) (e:(x:Rat)=(b:Rat)*q):((x.fdiv b:Int):Rat)=q:=by
 obtain ⟨z,rfl⟩:=hq;rw[<- aM] at e;have:=cZ.mp e;rw[this,Int.mul_fdiv_cancel_left _ hb]
theorem uB (h:Fr 1 W q):∃z:Int,q=(z:Rat):=by
 obtain ⟨z,e,_⟩:=h;exact ⟨z,by rw[<- e];simp⟩
theorem sP {z:Int} (h:Fr 1 W (z:Rat)):z.natAbs<=W:=by
 obtain ⟨y,e,b⟩:=h;have:(z:Rat)=(y:Rat):=by rw[<- e];simp
 rw[cZ.mp this];simpa using b
theorem FD (w:∀zs∈ls,zs.length=n) (hk:k < ls.length) (hb:b≠0) (hi:i < ls.length) (hz:∀c,∃z:Int,(dn ls k P*dn ls i c - dn ls i P*dn ls k c) / (b:Rat)=(z:Rat)) (c:Nat) :
  dn (Bo ls k P b) i c=if i=k then dn ls k c else (dn ls k P*dn ls i c - dn ls i P*dn ls k c) / (b:Rat):=by
 by_cases e:i=k
 ·rw[if_pos e];unfold dn Bo;rw[nQ (by rw[ag];exact hk),if_pos e]
 ·rw[if_neg e];by_cases hc:c < n
  ·have hb':(b:Rat)≠0:=λz=>hb (nW z)
   have lk:=w _ (getD_in (e:=[]) hk);have li:=w _ (getD_in (e:=[]) hi)
   have e1:dn (Bo ls k P b) i c=(((((ls.getD k []).getD P 0*(ls.getD i []).getD c 0 - (ls.getD i []).getD P 0*(ls.getD k []).getD c 0).fdiv b:Int)):Rat):=by
    unfold Bo;rw[dn,nQ (by rw[ag];exact hk),if_neg e];rw[aa (l:=List.map _ ls),aD,af hi];show ((((List.zipWith _ ls[i] (ls.getD k [])).getD c 0:Int)):Rat)=_
    have ei:ls.getD i []=ls[i]:=by rw[aa,af hi];rfl
    rw[<- ei];rw[aa (l:=List.zipWith _ _ _),du,aa (l:=ls.getD i []) (i:=c),aa (l:=ls.getD k []) (i:=c),af (show c < (ls.getD i []).length by lia),af (show c < (ls.getD k []).length by lia)];rfl
   rw[e1];refine Co hb (hz c) ?_;rw[wX,aM,aM];show _=(b:Rat)*((dn ls k P*dn ls i c - dn ls i P*dn ls k c) / (b:Rat))
   show dn ls k P*dn ls i c - dn ls i P*dn ls k c=_
   grind
  ·rw[vU (Dv w hk) (show n<=c by lia),vU w (i:=i) (show n<=c by lia),vU w (i:=k) (show n<=c by lia)];grind
end
section
variable {m k n P:Nat} {a l l2:Nat->Nat->Rat} {pm p p2:Nat->Nat} {d:Rat}
theorem rM.congr (B:rM a m k pm p l d) (hp:∀j,j < k->p2 j=p j) (hl:∀i,i < m->∀c,l2 i c=l i c):rM a m k pm p2 l2 d where
 inj:=B.inj
 rng:=B.rng
 km:=B.km
 d0:=B.d0
 det:=by rw[B.det,cw_congr (f:=λj r=>a r (p j)) (g:=λj r=>a r (p2 j)) λj hj=>by rw[hp j hj]]
 eqs i hi c:=by
  have km:=B.km;rw[B.eqs i hi c,hl i hi c];congr 1;exact bw λj hj=>by rw[hp j hj,hl j (by lia) c]
 unit i hi j hj:=by rw[hp j hj,hl i hi];exact B.unit i hi j hj
theorem dP.rows (h:∀i,i < m->∀c,l2 i c=l i c) (hx:dP m l x):dP m l2 x:=by obtain ⟨w,hw⟩:=hx;exact ⟨w,λc=>by rw[hw c];exact bw λt ht=>by rw[h t ht c]⟩
theorem ij.congr (E:ij a m k P p l d) (hp:∀j,j < k->p2 j=p j) (hl:∀i,i < m->∀c,l2 i c=l i c):ij a m k P p2 l2 d where
 km:=E.km
 d0:=E.d0
 unit i hi j hj:=by rw[hp j hj,hl i hi];exact E.unit i hi j hj
 inc i j hij hj:=by rw[hp i (by lia),hp j hj];exact E.inc i j hij hj
 low j hj:=by rw[hp j hj];exact E.low j hj
 zero i h1 h2 c hc:=by rw[hl i h2];exact E.zero i h1 h2 c hc
 lead j hj c hc:=by
  have km:=E.km;rw[hp j hj] at hc;rw[hl j (by lia)];exact E.lead j hj c hc
 there i hi:=(E.there i hi).rows hl
 back i hi:=(E.back i hi).congr λc=>(hl i hi c).symm
theorem ij.kP (E:ij a m k P p l d):k<=P:=by
 have:∀j,j < k->j<=p j:=by
  intro j
  induction j with
  | zero=>intro _;exact bo _
  | succ j ih =>
   intro hj;have:=ih (by lia);have:=E.inc j (j+1) (by lia) hj
   lia
 rcases pA k with z | z
 ·lia
 ·have h1:=this (k - 1) (by lia);have h2:=E.low (k - 1) (by lia)
  lia
end
structure yN (ls0:List (List Int)) (n P:Nat) (ls:List (List Int)) (ps:List Nat) (d:Int):Prop where
 len:ls.length=ls0.length
 wide:∀zs∈ls,zs.length=n
 bar:∃pm,rM (dn ls0) ls0.length ps.length pm (λj=>ps.getD j 0) (dn ls) d
 el:ij (dn ls0) ls0.length ps.length P (λj=>ps.getD j 0) (dn ls) d
section
variable {ls0 ls:List (List Int)} {n P:Nat} {ps:List Nat} {d:Int}
theorem yN.start (w:∀zs∈ls0,zs.length=n):yN ls0 n 0 ls0 [] 1:=⟨rfl,w,⟨λi=>i,rM.start λ_ _=>rfl⟩,ij.start⟩
theorem yN.d0 (h:yN ls0 n P ls ps d):d≠0:=λz=>h.el.d0 (by rw[z];rfl)
theorem yN.skip (h:yN ls0 n P ls ps d) (hz:∀i,ps.length<=i->i < ls.length->dn ls i P=0):yN ls0 n (P+1) ls ps d:=⟨h.len,h.wide,h.bar,h.el.skip λi h1 h2=>hz i h1 (by rw[h.len];exact h2)⟩
theorem getD_snoc (hj:j < l.length+1):(l++[x]).getD j 0=if j=l.length then x else l.getD j 0:=by
 rw[aa,aa];by_cases e:j=l.length
 ·rw[if_pos e,e,bu (ao _),j4];rfl
 ·rw[if_neg e,bZ (by lia)]
theorem yN.int (h:yN ls0 n P ls ps d) (hW:1<=W) (h0:∀i,i < ls0.length->∀c,Fr 1 W (dn ls0 i c)) (ht:ps.length<=t) (ht2:t < ls.length) (hne:dn ls t P≠0) :
  ∀i,i < ls.length->i≠ps.length->∀c,∃z:Int,(dn (kW ls ps.length t) ps.length P*dn (kW ls ps.length t) i c - dn (kW ls ps.length t) i P*dn (kW ls ps.length t) ps.length c) / (d:Rat)=(z:Rat):=λi hi ne c=>by
 obtain ⟨pm,B⟩:=h.bar;have hl:=h.len;have hk:ps.length < ls.length:=by lia
 have B1:=(B.swap ht (by lia)).congr (p2:=λj=>ps.getD j 0) (l2:=dn (kW ls ps.length t)) (λ_ _=>rfl) (λi _ c=>qN hk ht2 i c)
 have h1:dn (kW ls ps.length t) ps.length P≠0:=by
  rw[qN hk ht2];unfold gO;rw[if_pos rfl];exact hne
 have B2:=B1.step (c0:=P) (by lia) h1;have:=B2.fr (W:=W) (N:=ps.length+2) (by lia) hW h0 (i:=i) (c:=c) (by lia);rw[if_neg ne] at this;exact uB this
theorem yN.step (h:yN ls0 n P ls ps d) (hW:1<=W) (h0:∀i,i < ls0.length->∀c,Fr 1 W (dn ls0 i c)) (ht:ps.length<=t) (ht2:t < ls.length) (hne:dn ls t P≠0) :
  yN ls0 n (P+1) (Bo (kW ls ps.length t) ps.length P d) (ps++[P]) (((Bo (kW ls ps.length t) ps.length P d).getD ps.length []).getD P 0):=by
 obtain ⟨pm,B⟩:=h.bar;have hl:=h.len;have hk:ps.length < ls.length:=by lia
 have hz:=h.int hW h0 ht ht2 hne;have w1:=CF h.wide hk ht2;have k1:ps.length < (kW ls ps.length t).length:=by rw[rO];exact hk
 have B1:=(B.swap ht (by lia)).congr (p2:=λj=>ps.getD j 0) (l2:=dn (kW ls ps.length t)) (λ_ _=>rfl) (λi _ c=>qN hk ht2 i c);have E1:=(h.el.swap ht (by lia)).congr (p2:=λj=>ps.getD j 0) (l2:=dn (kW ls ps.length t)) (λ_ _=>rfl) (λi _ c=>qN hk ht2 i c)
 have h1:dn (kW ls ps.length t) ps.length P≠0:=by
  rw[qN hk ht2];unfold gO;rw[if_pos rfl];exact hne
 have B2:=B1.step (c0:=P) (by lia) h1
 have fc:∀i,i < ls0.length->∀c,dn (Bo (kW ls ps.length t) ps.length P d) i c=if i=ps.length then dn (kW ls ps.length t) ps.length c else (dn (kW ls ps.length t) ps.length P*dn (kW ls ps.length t) i c - dn (kW ls ps.length t) i P*dn (kW ls ps.length t) ps.length c) / (d:Rat):=λi hi c=>by
  by_cases e:i=ps.length
  ·rw[if_pos e];unfold dn Bo;rw[nQ (by rw[ag];exact k1),if_pos e]
  ·have:=FD w1 k1 h.d0 (i:=i) (by rw[rO];lia) (hz i (by lia) e) c;rw[this]
 have ed:(((((Bo (kW ls ps.length t) ps.length P d).getD ps.length []).getD P 0:Int)):Rat)=dn (kW ls ps.length t) ps.length P:=by
  have:=fc ps.length (by lia) P;rw[if_pos rfl] at this;exact this
 have lp:(ps++[P]).length=ps.length+1:=by rw[aw];rfl
 have hp:∀j,j < ps.length+1->(ps++[P]).getD j 0=if j=ps.length then P else ps.getD j 0:=λj hj=>getD_snoc hj
 refine ⟨by rw[FP,rO];exact hl,Dv w1 k1,⟨λi=>pm (gO ps.length t i),?_⟩,?_⟩
 ·rw[ed,lp];exact B2.congr hp fc
 ·rw[ed,lp];refine ij.congr (E1.step (d':=dn (kW ls ps.length t) ps.length P) (l':=λi c=>if i=ps.length then dn (kW ls ps.length t) ps.length c else (dn (kW ls ps.length t) ps.length P*dn (kW ls ps.length t) i c - dn (kW ls ps.length t) i P*dn (kW ls ps.length t) ps.length c) / (d:Rat)) (by lia) h1 B2.unit λi hi=>?_) hp fc;have d0:=h.el.d0;by_cases e:i=ps.length
  ·refine ⟨1,0,by decide,λ_=>rfl,λc=>?_⟩;rw[if_pos e,e];grind
  ·refine ⟨dn (kW ls ps.length t) ps.length P / (d:Rat),-(dn (kW ls ps.length t) i P) / (d:Rat),?_,λz=>absurd z e,λc=>?_⟩
   ·intro z;apply h1;grind
   ·rw[if_neg e];grind
theorem yN.sz (h:yN ls0 n P ls ps d) (hW:1<=W) (h0:∀i,i < ls0.length->∀c,Fr 1 W (dn ls0 i c)) (hP:P<=n) (hr:min ls0.length n<=r) (r15:r<=15):(d.natAbs<=(16*W)^r)/\∀zs∈ls,∀z∈zs,z.natAbs<=(16*W)^r:=by
 obtain ⟨pm,B⟩:=h.bar;have kP:=h.el.kP;have km:=B.km;have hl:=h.len;have mono:∀{s t:Nat},s<=t->(16*W)^s<=(16*W)^t:=λhs=>ar (cD (by decide) hW) hs
 refine ⟨aj (sP (B.dfr (W:=W) (N:=16) (by lia) h0)) (mono (by lia)),λzs hz z hz'=>?_⟩;obtain ⟨i,hi,rfl⟩:=bK hz;obtain ⟨c,hc,rfl⟩:=bK hz';have hw:=h.wide _ (aZ hi)
 have ez:dn ls i c=(((ls[i])[c]:Int):Rat):=by
  unfold dn;rw[aa (l:=ls),af hi];show ((ls[i].getD c 0:Int):Rat)=_
  rw[aa,af hc];rfl
 by_cases hk:i < ps.length
 ·have:Fr 1 ((16*W)^ps.length) (dn ls i c):=by
   have hd:=B.d0;rw[B.old hk]
   have:=yj (W:=W) (N:=16) (rs:=Ap pm ps.length) (vs:=FL (λj r=>dn ls0 r (ps.getD j 0)) i ps.length++(λr=>dn ls0 r c) :: oZ (λj r=>dn ls0 r (ps.getD j 0)) i) (by
    have:=congrArg List.length (cw_split (v:=λj r=>dn ls0 r (ps.getD j 0)) hk);rw[aw,bq,cw_len] at this;rw[aw,bq]
    lia) (by
    intro v hv r hr
    have hr':∀c,Fr 1 W (dn ls0 r c):=λc=>by
     obtain ⟨t,ht,rfl⟩:=nG hr;exact h0 _ (B.rng t (by lia)) c
    rcases ax.mp hv with hv | hv
    ·obtain ⟨t,_,rfl⟩:=Ds hv;exact hr' _
    ·rcases aE.mp hv with rfl | hv
     ·exact hr' _
     ·obtain ⟨t,_,rfl⟩:=cw_in hv;exact hr' _)
   rwa [sC] at this
  rw[ez] at this;exact aj (sP this) (mono (by lia))
 ·by_cases hn:ps.length < n
  ·have:=B.fr (W:=W) (N:=16) (by lia) hW h0 (i:=i) (c:=c) (by lia);rw[ez] at this;exact aj (sP this) (mono (by lia))
  ·have:=h.el.zero i (by lia) (by lia) c (by lia);rw[ez] at this;rw[nW this];exact bo _
end
def Tp (M W:Nat) (q:Rat):Prop:=∃z:Int,q*(M:Rat)=(z:Rat)/\z.natAbs<=W
theorem Tp.of {M V W:Nat} (h:Fr M V q) (hW:V*M<=W):Tp M W q:=by obtain ⟨z,a,b⟩:=h;exact ⟨z,a,aj b hW⟩
theorem Tp.mono (h:Tp M W q) (hW:W<=W'):Tp M W' q:=by obtain ⟨z,a,b⟩:=h;exact ⟨z,a,aj b hW⟩
theorem Tp.fr (h:Tp M W q) (h0:0 < M):Fr M W q:=by obtain ⟨z,a,b⟩:=h;exact ⟨z,a,aj b (c6 _ h0)⟩
def BA (rows:LR9) (n w:Nat):Prop:=∃M W:Nat,0 < M/\M<=2^4300/\1<=W/\W<=2^w/\(∀xs∈rows,∀x∈xs,Tp M W x)/\w<=4300/\min rows.length n<=15/\min rows.length n*(w+4)<=8900
def fw (xs:List Rat):List Int:=dW (xs.map nm) (eQ (xs.map nm))
theorem qd:(fw xs).length=xs.length:=by unfold fw dW;rw[ag,ag]
theorem nX {xs:List Rat}:0 < eQ (xs.map nm):=vP (by decide) λb hb=>by
 obtain ⟨n,hn,rfl⟩:=ay.mp hb;obtain ⟨x,_,rfl⟩:=ay.mp hn;exact eV x
theorem F8:(((fw xs).getD c 0:Int):Rat)=xs.getD c 0*((eQ (xs.map nm):Int):Rat):=by
 unfold fw dW;rw[aa,aa,aD,aD];cases e:xs[c]? with
 | none=>show ((0:Int):Rat)=0*_;rw[DA];rfl
 | some x=>exact mT (nY (ay.mpr ⟨x,av e,rfl⟩))
section
variable {rows:LR9} {n w i c:Nat} {xs:List Rat}
theorem Av (hi:i < rows.length):dn (rows.map fw) i c=((eQ ((rows.getD i []).map nm):Int):Rat)*b7 rows i c:=by
 unfold dn b7
 have e:(rows.map fw).getD i []=fw (rows.getD i []):=by
  rw[aa,aa,aD,af hi];rfl
 rw[e,F8,iC]
theorem vT (hw:∀xs∈rows,xs.length=n) (hc:n<=c):b7 rows i c=0:=by
 unfold b7;by_cases h:i < rows.length
 ·have:=hw _ (getD_in (e:=[]) h);rw[aa (l:=rows.getD i []),be (by lia)];rfl
 ·rw[aa (l:=rows),be (by lia)];rfl
theorem CA (i:Nat) (hi:i < rows.length):dP rows.length (dn (rows.map fw)) (b7 rows i):=by
 have h0:((eQ ((rows.getD i []).map nm):Int):Rat)≠0:=λz=>by
  have:=nX (xs:=rows.getD i []);have:=nW z
  lia
 refine dP.congr (λc=>?_) (dP.lin (1 / ((eQ ((rows.getD i []).map nm):Int):Rat)) 0 (dP.row (a:=dn (rows.map fw)) hi) (dP.row (a:=dn (rows.map fw)) hi));rw[Av hi];grind
theorem Cz (i:Nat) (hi:i < rows.length):dP rows.length (b7 rows) (dn (rows.map fw) i):=by
 refine dP.congr (λc=>?_) (dP.lin ((eQ ((rows.getD i []).map nm):Int):Rat) 0 (dP.row (a:=b7 rows) hi) (dP.row (a:=b7 rows) hi));rw[Av hi];grind
theorem pG (h:Tp M W x):(nm x).2∣(M:Int):=by
 obtain ⟨z,e,b⟩:=h
 exact Fr.den (V:=z.natAbs) (M:=M) ⟨z,e,by
  rcases pA M with h | h
  ·subst h;have:(z:Rat)=0:=by rw[<- e];simp
   rw[nW this];simp
  ·exact c6 _ h⟩
theorem uI (h:Tp M W x) (h0:0 < M) (hB:0 < B) (d1:(nm x).2∣B) (d2:B∣(M:Int)):∃t:Int,x*(B:Rat)=(t:Rat)/\t.natAbs<=W:=by
 obtain ⟨z,e,b⟩:=h;obtain ⟨s,es⟩:=d2;refine ⟨(nm x).1*(B / (nm x).2),(mT d1).symm,?_⟩
 have s0:0 < s:=by
  rcases Int.lt_trichotomy s 0 with h | h | h
  ·have:=p7 hB h
   lia
  ·rw[h] at es;lia
  ·exact h
 have e2:(((nm x).1*(B / (nm x).2)*s:Int):Rat)=(z:Rat):=by
  rw[aM,mT d1,<- e,<- aY,es,aM];grind
 have e3:=cZ.mp e2;have:((nm x).1*(B / (nm x).2)).natAbs*s.natAbs=z.natAbs:=by rw[<- dI,e3]
 have h1:1<=s.natAbs:=by lia
 have:=c6 ((nm x).1*(B / (nm x).2)).natAbs h1
 lia
theorem Ag (h0:0 < M) (h:∀x∈xs,Tp M W x):eQ (xs.map nm)∣(M:Int):=ux (by decide) (Int.one_dvd _) λb hb=>by
 obtain ⟨n,hn,rfl⟩:=ay.mp hb;obtain ⟨x,hx,rfl⟩:=ay.mp hn;exact ⟨eV x,pG (h x hx)⟩
theorem BA.rowM (F:BA rows n w) (hx:xs∈rows):∃M,Ct M (xs.map nm):=by
 obtain ⟨M,W,h0,h1,hW,h2,h3,h4,_⟩:=F;refine ⟨M,by lia,?_,λy hy=>?_⟩
 ·show ((M:Nat):Int).natAbs < 2^4400
  rw[cB];exact aV h1 (dH (by decide) (by decide))
 ·obtain ⟨x,hx',rfl⟩:=ay.mp hy;have t:=h3 xs hx x hx';refine ⟨eV x,pG t,?_⟩;obtain ⟨s,e,b⟩:=uI t h0 (eV x) (DD _) (pG t);have e2:(((nm x).1:Int):Rat)=(s:Rat):=by rw[<- e];exact i8 x
  rw[cZ.mp e2];exact aV (aj b h2) (dH (by decide) (by lia))
theorem BA.ent (F:BA rows n w):∃W:Nat,1<=W/\W<=2^w/\∀i,i < (rows.map fw).length->∀c,Fr 1 W (dn (rows.map fw) i c):=by
 obtain ⟨M,W,h0,h1,hW,h2,h3,h4,_⟩:=F;refine ⟨W,hW,h2,λi hi c=>?_⟩;rw[ag] at hi;have hx:=getD_in (e:=[]) hi;rw[Av hi];unfold b7;generalize rows.getD i []=xs at hx ⊢;by_cases hc:c < xs.length
 ·have t:=h3 xs hx _ (getD_in (e:=0) hc);obtain ⟨s,e,b⟩:=uI t h0 (nX (xs:=xs)) (nY (ay.mpr ⟨_,getD_in (e:=0) hc,rfl⟩)) (Ag h0 (h3 xs hx));rw[iC,e];exact Fr.int b
 ·rw[aa,be (by lia)];show Fr 1 W (_*0)
  rw[oz];exact Fr.zero
end
def bB (rows:LR9) (n:Nat) (R:LR9) (ps:List Nat):Prop:=R.length=ps.length/\(∀xs∈R,xs.length=n)/\BB rows.length n (b7 rows) ps.length (λj=>ps.getD j 0) (b7 R)
structure Mf (rows:LR9) (n w:Nat) (R:LR9) (ps:List Nat) (d:Int) (ls:List (List Int)):Prop where
 rr:bB rows n R ps
 d0:d≠0
 len:ls.length=ps.length
 wide:∀zs∈ls,zs.length=n
 val:∀i c,dn ls i c=(d:Rat)*b7 R i c
 dsz:d.natAbs<=2^(min rows.length n*(w+4))
 zsz:∀zs∈ls,∀z∈zs,z.natAbs<=2^(min rows.length n*(w+4))
 tp:∀xs∈R,∀x∈xs,Tp d.natAbs (2^(min rows.length n*(w+4))) x
 km:ps.length<=rows.length
theorem BB.congrR {a R R2:Nat->Nat->Rat} (h:BB m n a k p R) (hr:∀i,i < k->∀c,R2 i c=R i c):BB m n a k p R2 :=
 ⟨h.inc,h.low,λi hi j hj=>by rw[hr i hi];exact h.unit i hi j hj,λi hi c hc=>by rw[hr i hi];exact h.lead i hi c hc,λi hi=>(h.span i hi).rows hr,λi hi=>(h.back i hi).congr λc=>(hr i hi c).symm⟩
theorem BB.other (h:BB m n a k p R) (s1:∀i,i < m->dP m' a' (a i)) (s2:∀i,i < m'->dP m a (a' i)):BB m' n a' k p R :=
 ⟨h.inc,h.low,h.unit,h.lead,λi hi=>dP.trans h.span (s2 i hi),λi hi=>dP.trans s1 (h.back i hi)⟩
theorem sE (h:W<=2^w):(16*W)^r<=2^(r*(w+4)):=by
 calc (16*W)^r<=(2^(w+4))^r:=Ar (by rw[bI];lia) _
  _=2^(r*(w+4)):=by rw[<- Nat.pow_mul,cp]
theorem yN.done (h:yN (rows.map fw) n n ls ps d) (hw:∀xs∈rows,xs.length=n) (F:BA rows n w) :
  ∃R,Mf rows n w R ps d (ls.take ps.length):=by
 obtain ⟨W,hW,W2,ent⟩:=F.ent;obtain ⟨_,_,_,_,_,_,_,_,r15,_⟩:=F;have hl:=h.len;have d0:=h.d0;have d0':(d:Rat)≠0:=λz=>d0 (nW z)
 have km:=h.el.km;have hm:(rows.map fw).length=rows.length:=ag ..;obtain ⟨s1,s2⟩:=h.sz (r:=min rows.length n) hW ent (ao _) (by rw[hm];exact ao _) r15;have s2':∀zs∈ls,∀z∈zs,z.natAbs<=2^(min rows.length n*(w+4)):=λzs hz z hz'=>aj (s2 zs hz z hz') (sE W2)
 have er:∀i c,b7 ((ls.take ps.length).map λzs=>zs.map λ(z:Int)=>(z:Rat) / (d:Rat)) i c=dn (ls.take ps.length) i c / (d:Rat):=λi c=>by
  unfold b7 dn;rw[aa (l:=List.map _ _),aD,aa (l:=List.take _ _)];cases e:(ls.take ps.length)[i]? with
  | none=>show (0:Rat)=((0:Int):Rat) / _;grind
  | some zs =>
   show (zs.map λ(z:Int)=>(z:Rat) / (d:Rat)).getD c 0=((zs.getD c 0:Int):Rat) / (d:Rat)
   rw[aa,aa,aD];cases e2:zs[c]? with
   | none=>show (0:Rat)=((0:Int):Rat) / _;grind
   | some z=>rfl
 have et:∀i,i < ps.length->∀c,dn (ls.take ps.length) i c=dn ls i c:=λi hi c=>by
  unfold dn;rw[aa (l:=List.take _ _),iX hi,<- aa]
 have RR:=(h.el.done λi hi c hc=>vU (n:=n) (λzs hz=>by
  obtain ⟨xs,hx,rfl⟩:=ay.mp hz;rw[qd];exact hw xs hx) hc).congrR (R2:=b7 ((ls.take ps.length).map λzs=>zs.map λ(z:Int)=>(z:Rat) / (d:Rat))) λi hi c=>by rw[er,et i hi]
 rw[hm] at RR;refine ⟨(ls.take ps.length).map λzs=>zs.map λ(z:Int)=>(z:Rat) / (d:Rat),⟨by rw[ag,cQ];lia,λxs hx=>?_,RR.other Cz CA⟩,d0,by rw[cQ];lia,λzs hz=>h.wide zs (cL hz),λi c=>?_,aj s1 (sE W2),λzs hz=>s2' zs (cL hz),λxs hx x hx'=>?_,by lia⟩
 ·obtain ⟨zs,hz,rfl⟩:=ay.mp hx;rw[ag];exact h.wide zs (cL hz)
 ·rw[er];grind
 ·obtain ⟨zs,hz,rfl⟩:=ay.mp hx;obtain ⟨z,hz',rfl⟩:=ay.mp hx';have b:=s2' zs (cL hz) z hz';rcases Kw d with e | e
  ·refine ⟨z,?_,b⟩;have:((d.natAbs:Nat):Rat)=(d:Rat):=by rw[<- aY,<- e]
   rw[this];grind
  ·refine ⟨-z,?_,by rw[pC];exact b⟩;have:((d.natAbs:Nat):Rat)=-(d:Rat):=by rw[<- aY,<- dj];congr 1;lia
   rw[this,dj];grind
theorem FA (hl:R.length=R'.length) (w1:∀xs∈R,xs.length=n) (w2:∀xs∈R',xs.length=n) (h:∀i,i < R.length->∀c,b7 R i c=b7 R' i c):R=R':=by
 apply iF hl;intro i h1 h2;apply iF (by rw[w1 _ (aZ h1),w2 _ (aZ h2)]);intro c h3 h4;have:=h i h1 c;unfold b7 at this;rw[aa (l:=R),aa (l:=R'),af h1,af h2] at this;have this:(R[i]).getD c 0=(R'[i]).getD c 0:=this;rw[aa,aa,af h3,af h4] at this;exact this
theorem bB.uniq (h:bB rows n R ps) (h':bB rows' n R' ps') (s1:∀i,i < rows.length->dP rows'.length (b7 rows') (b7 rows i)) (s2:∀i,i < rows'.length->dP rows.length (b7 rows) (b7 rows' i)):R=R'/\ps=ps':=by
 obtain ⟨l1,w1,r1⟩:=h;obtain ⟨l2,w2,r2⟩:=h';obtain ⟨ek,ep,eR⟩:=r1.uniq r2 s1 s2;refine ⟨FA (by lia) w1 w2 λi hi c=>eR i (by lia) c,?_⟩;apply iF ek;intro j h1 h2;have:=ep j h1;rw[aa,aa,af h1,af h2] at this;exact this
theorem bB.same (h:bB rows n R ps) (h':bB rows n R' ps'):R=R'/\ps=ps':=h.uniq h' (λ_ hi=>dP.row hi) (λ_ hi=>dP.row hi)
open PySem PySem.Spec PyProof.Rows
def Dy (l:Addr) (H:Hp) (zs:List Int) (v:V):Prop:=∃q,v=V.ref q/\q≠l/\H q=some (.lst (zs.map V.int))
def og (l:Addr) (H:Hp) (p:Addr) (ls:List (List Int)):Prop:=p≠l/\∃xs,H p=some (.lst xs)/\Paired (Dy l H) ls xs
theorem Dy.same (h:Dy l H zs v) (e:aF H H'):Dy l H' zs v:=by obtain ⟨q,a,n,b⟩:=h;exact ⟨q,a,n,e _ _ b⟩
theorem Dy.upd {l:Addr} {H:Hp} {zs:List Int} {v:V} {o:HO} (h:Dy l H zs v):Dy l (upd H l o) zs v:=by obtain ⟨q,a,n,b⟩:=h;exact ⟨q,a,n,by rw[a7 n];exact b⟩
theorem og.upd {l:Addr} {H:Hp} {p:Addr} {ls:List (List Int)} {o:HO} (h:og l H p ls):og l (upd H l o) p ls:=by obtain ⟨n,xs,a,b⟩:=h;exact ⟨n,xs,by rw[a7 n];exact a,Paired.imp' (λ_ _ z=>z.upd) b⟩
theorem ne_old {H:Hp} (h:H l≠none) (n:H r=none):r≠l:=λz=>h (by rw[<- z];exact n)
theorem jt {α β:Type} {F:α->β->Prop}:∀{l1:List α} {l2:List β} (_:Paired F l1 l2) (i:Nat) {x:α} {y:β},F x y->Paired F (l1.set i x) (l2.set i y)
 | _,_,.nil,_,_,_,_=>.nil
 | _,_,.cons _ r,0,_,_,h=>.cons h r
 | _,_,.cons a r,i+1,_,_,h=>.cons a (jt r i h)
theorem IZ (h:ls[i]?=some zs):dn ls i c=((zs.getD c 0:Int):Rat):=by
 unfold dn;rw[aa (l:=ls),h];rfl
theorem LX:((z:Int):Rat)≠0↔z≠0:=⟨λh e=>h (by rw[e];rfl),λh e=>h (nW e)⟩
theorem Au {zs:List Int} (h:c < zs.length):Cq (zs.map V.int) (c:Int)=some (V.int (zs.getD c 0)):=eG (by rw[aD,aa,af h];rfl)
inductive xO (vs:List V) (H:Hp) (Q:VK) (E9:XK):Prop
 | mk (l p:Addr) (ls:List (List Int)) (b c:Nat):vs=[.ref p,.int b,.int c]->og l H p ls->ls.length<=1000->b<=1000->(∀zs∈ls,c < zs.length)->(∀t:Nat,b<=t->t < ls.length->dn ls t c≠0->Q (.int t) H)->((∀t,b<=t->t < ls.length->dn ls t c=0)->Q .non H)->xO  vs H Q E9
inductive sW (vs:List V) (H:Hp) (Q:VK) (E9:XK):Prop
 | mk (l p:Addr) (ls:List (List Int)) (t k:Nat):vs=[.ref p,.int t,.int k]->H l≠none->og l H p ls->ls.length<=1000->t < ls.length->k < ls.length->(∀r H',H r=none->aF H H'->og l H' r (kW ls k t)->Q (.ref r) H')->sW  vs H Q E9
inductive xP (vs:List V) (H:Hp) (Q:VK) (E9:XK):Prop
 | mk (l p:Addr) (ls:List (List Int)) (k c n:Nat) (b:Int):vs=[.ref p,.int k,.int c,.int b]->H l≠none->og l H p ls->ls.length<=1000->k < ls.length->(∀zs∈ls,zs.length=n)->n<=1000->c < n->b≠0->Sz 8999 b->(∀zs∈ls,∀z∈zs,Sz 8999 z)->(∀r H',H r=none->aF H H'->og l H' r (Bo ls k c b)->Q (.ref r) H')->xP  vs H Q E9
theorem EU (K:FG9) {X:Cx} {a b:Expr} {ta:TA} {p pos tpos:Pos} {elts:List Expr} {kk:Nat} (hg:Gl X "zip") (hm:X.mg "zip"=none) (ha:PA X [a,b] ta) (hK:X.K=K:=by rfl) (hs:starEach [a,b] X.env=[(false,eval a X.env),(false,eval b X.env)]:=by rfl) (hs2:starEach [b] X.env=[(false,eval b X.env)]:=by rfl) :
  PI X (.Tuple elts kk tpos) (.Call (.Name "zip" p) [a,b] [] pos) (J9 K ta):=by subst hK;exact zx hg hm ha hs hs2
def ck (ps:List Nat):List V:=ps.map λ(j:Nat)=>V.int (j:Int)
inductive xG (K:FG9) (vs:List V) (H:Hp) (Q:VK) (E9:XK):Prop
 | mk (p:Addr) (n w:Nat) (H0:Hp) (rows:LR9):vs=[.ref p,.int n]->bg K H0 H p rows->rows.length<=100->n<=100->(∀xs∈rows,xs.length=n)->BA rows n w->(∀t lp qp R ps d ls H',H' t=some (.tup [.ref lp,.ref qp])->H' qp=some (.lst (ck ps))->og qp H' lp ls->aF H H'->Mf rows n w R ps d ls->Q (.ref t) H')->xG K vs H Q E9
inductive sU (K:FG9) (vs:List V) (H:Hp) (Q:VK) (E9:XK):Prop
 | mk (p:Addr) (n w:Nat) (H0:Hp) (rows:LR9):vs=[.ref p,.int n]->bg K H0 H p rows->rows.length<=100->n<=100->(∀xs∈rows,xs.length=n)->BA rows n w->(∀r R ps M H',H r=none->aF H H'->bg K H H' r R->bB rows n R ps->ps.length<=rows.length->0 < M->M<=2^(min rows.length n*(w+4))->(∀xs∈R,∀x∈xs,Tp M (2^(min rows.length n*(w+4))) x)->Q (.ref r) H')->sU K vs H Q E9
def uq (rows:LR9) (i:Nat):Rat:=((eQ ((rows.getD i []).map nm):Int):Rat)
theorem uC:uq rows i≠0:=λz=>by
 have:=nX (xs:=rows.getD i []);have:=nW z
 lia
structure wO (rows:LR9) (n P:Nat) (rs:LR9) (ps:List Nat):Prop where
 len:rs.length=rows.length
 wide:∀xs∈rs,xs.length=n
 ex:∃pm l d,rM (dn (rows.map fw)) rows.length ps.length pm (λj=>ps.getD j 0) l d/\ij (dn (rows.map fw)) rows.length ps.length P (λj=>ps.getD j 0) l d/\∀i,i < rows.length->∀c,b7 rs i c=l i c / (d*if i < ps.length then 1 else uq rows (pm i))
section
variable {rows rs rs':LR9} {n P w a:Nat} {ps:List Nat}
theorem Fd {k i j:Nat} (h:d≠0):d*(if i < k then 1 else uq rows j)≠0:=by
 have:=uC (rows:=rows) (i:=j)
 split <;> grind
theorem wO.start (hw:∀xs∈rows,xs.length=n):wO rows n 0 rows []:=⟨rfl,hw,λi=>i,dn (rows.map fw),1,rM.start λ_ _=>rfl,ij.start,λi hi c=>by
 rw[Av hi,if_neg (by show ¬i < 0;lia)];have:=uC (rows:=rows) (i:=i);show b7 rows i c=uq rows i*b7 rows i c / (1*uq rows i)
 grind⟩
theorem wO.skip (h:wO rows n P rs ps) (hz:∀i,ps.length<=i->i < rs.length->b7 rs i P=0):wO rows n (P+1) rs ps:=by
 obtain ⟨len,wide,pm,l,d,B,E,v⟩:=h;refine ⟨len,wide,pm,l,d,B,E.skip λi h1 h2=>?_,v⟩;have:=v i h2 P;rw[hz i h1 (by lia)] at this;have ne:=Fd (rows:=rows) (i:=i) (j:=pm i) (k:=ps.length) B.d0;generalize d*(if i < ps.length then 1 else uq rows (pm i))=D at this ne;grind
theorem wO.km (h:wO rows n P rs ps):ps.length<=rows.length/\ps.length<=P:=by obtain ⟨_,_,_,_,_,_,E,_⟩:=h;exact ⟨E.km,E.kP⟩
theorem wO.step (h:wO rows n P rs ps) (ht:ps.length<=t) (ht2:t < rs.length) (hne:b7 rs t P≠0) (l':rs'.length=rows.length) (w':∀xs∈rs',xs.length=n)
  (hv:∀i,i < rows.length->∀c,b7 rs' i c=if i=ps.length then 1 / b7 rs t P*b7 rs t c else b7 rs (gO ps.length t i) c - b7 rs (gO ps.length t i) P*(1 / b7 rs t P*b7 rs t c)):wO rows n (P+1) rs' (ps++[P]):=by
 obtain ⟨len,wide,pm,l,d,B,E,v⟩:=h;have hk:ps.length < rows.length:=by lia
 have B1:=B.swap ht (by lia);have E1:=E.swap ht (by lia);have d0:=B.d0
 have v1:∀i,i < rows.length->∀c,b7 rs (gO ps.length t i) c=l (gO ps.length t i) c / (d*if i < ps.length then 1 else uq rows (pm (gO ps.length t i))):=λi hi c=>by
  rw[v _ (oG hk (by lia) hi) c];by_cases z:i < ps.length
  ·rw[pH ht z,if_pos z]
  ·rw[if_neg z,if_neg (by have:=qh ht (show ps.length<=i by lia);lia)]
 have sk:gO ps.length t ps.length=t:=by unfold gO;rw[if_pos rfl]
 have vt:∀c,b7 rs t c=l (gO ps.length t ps.length) c / (d*uq rows (pm (gO ps.length t ps.length))):=λc=>by
  have:=v1 ps.length hk c;rw[if_neg (by lia),sk] at this;rw[sk];exact this
 have bt:=uC (rows:=rows) (i:=pm (gO ps.length t ps.length));have h1:l (gO ps.length t ps.length) P≠0:=λz=>hne (by rw[vt P,z];grind)
 have B2:=B1.step (c0:=P) hk h1;have lp:(ps++[P]).length=ps.length+1:=by rw[aw];rfl
 have hp:∀j,j < ps.length+1->(ps++[P]).getD j 0=if j=ps.length then P else ps.getD j 0:=λj hj=>getD_snoc hj
 refine ⟨l',w',λi=>pm (gO ps.length t i),_,_,by rw[lp];exact B2.congr (l2:=λi c=>if i=ps.length then l (gO ps.length t ps.length) c else (l (gO ps.length t ps.length) P*l (gO ps.length t i) c - l (gO ps.length t i) P*l (gO ps.length t ps.length) c) / d) hp (λ_ _ _=>rfl),?_,λi hi c=>?_⟩
 ·rw[lp];refine ij.congr (E1.step (d':=l (gO ps.length t ps.length) P) (l':=λi c=>if i=ps.length then l (gO ps.length t ps.length) c else (l (gO ps.length t ps.length) P*l (gO ps.length t i) c - l (gO ps.length t i) P*l (gO ps.length t ps.length) c) / d) hk h1 B2.unit λi hi=>?_) hp (λ_ _ _=>rfl);by_cases e:i=ps.length
  ·refine ⟨1,0,by decide,λ_=>rfl,λc=>?_⟩;rw[if_pos e,e];grind
  ·refine ⟨l (gO ps.length t ps.length) P / d,-(l (gO ps.length t i) P) / d,?_,λz=>absurd z e,λc=>?_⟩
   ·intro z;apply h1;grind
   ·rw[if_neg e];grind
 ·rw[hv i hi c,lp,vt c,vt P];by_cases e:i=ps.length
  ·rw[if_pos e,if_pos e,if_pos (by lia)];grind
  ·rw[if_neg e,if_neg e,v1 i hi c,v1 i hi P];have ne:=Fd (rows:=rows) (i:=i) (j:=pm (gO ps.length t i)) (k:=ps.length) d0;by_cases z:i < ps.length
   ·rw[if_pos z,if_pos (by lia)];grind
   ·have bi:=uC (rows:=rows) (i:=pm (gO ps.length t i));rw[if_neg z,if_neg (by lia)];grind
theorem wO.done (h:wO rows n n rs ps) (hw:∀xs∈rows,xs.length=n):bB rows n (rs.take ps.length) ps:=by
 obtain ⟨len,wide,pm,l,d,B,E,v⟩:=h;have km:=E.km;refine ⟨by rw[cQ];lia,λxs hx=>wide xs (cL hx),BB.other ((E.done λi hi c hc=>?_).congrR λi hi c=>?_) Cz CA⟩
 ·exact vU (n:=n) (λzs hz=>by
   obtain ⟨xs,hx,rfl⟩:=ay.mp hz;rw[qd];exact hw xs hx) hc
 ·have e:b7 (rs.take ps.length) i c=b7 rs i c:=by
   unfold b7;rw[aa (l:=List.take _ _),iX hi,<- aa]
  rw[e,v i (by lia) c,if_pos hi,FU]
def IU (rows:LR9) (n w a:Nat):Prop:=∃M W:Nat,0 < M/\M<=2^a/\1<=W/\W<=2^w/\(∀xs∈rows,∀x∈xs,Tp M W x)/\min rows.length n<=15/\2*(min rows.length n*(w+4)+a)<=3990
theorem IU.ent (F:IU rows n w a):∃W:Nat,1<=W/\W<=2^w/\∀i,i < rows.length->∀c,Fr 1 W (dn (rows.map fw) i c):=by
 obtain ⟨M,W,h0,h1,hW,h2,h3,_⟩:=F;refine ⟨W,hW,h2,λi hi c=>?_⟩;have hx:=getD_in (e:=[]) hi;rw[Av hi];unfold b7;generalize rows.getD i []=xs at hx ⊢;by_cases hc:c < xs.length
 ·have t:=h3 xs hx _ (getD_in (e:=0) hc);obtain ⟨s,e,b⟩:=uI t h0 (nX (xs:=xs)) (nY (ay.mpr ⟨_,getD_in (e:=0) hc,rfl⟩)) (Ag h0 (h3 xs hx));rw[iC,e];exact Fr.int b
 ·rw[aa,be (by lia)];show Fr 1 W (_*0)
  rw[oz];exact Fr.zero
theorem IU.bot (F:IU rows n w a) (hi:i < rows.length):∃b:Nat,0 < b/\b<=2^a/\uq rows i=(b:Rat):=by
 obtain ⟨M,W,h0,h1,hW,h2,h3,_⟩:=F;have hx:=getD_in (e:=[]) hi;have p:=nX (xs:=rows.getD i []);have dv:=Ag h0 (h3 _ hx);refine ⟨(eQ ((rows.getD i []).map nm)).natAbs,by lia,aj (fU h0 ?_) h1,?_⟩
 ·have:=dw.mpr dv;rwa [cB] at this
 ·unfold uq;rw[<- aY];congr 1
  lia
theorem Jc {z y:Int} (hl:l=(z:Rat)) (hD:D=(y:Rat)) (h0:D≠0) (hz:z.natAbs<=W):Tp y.natAbs W (l / D):=by
 rcases Kw y with e | e
 ·refine ⟨z,?_,hz⟩;have:((y.natAbs:Nat):Rat)=D:=by rw[<- aY,<- e,hD]
  rw[this,hl];grind
 ·refine ⟨-z,?_,by rw[pC];exact hz⟩;have:((y.natAbs:Nat):Rat)=-D:=by rw[<- aY,hD,<- dj];congr 1;lia
  rw[this,hl,dj];grind
theorem wO.sz (h:wO rows n P rs ps) (F:IU rows n w a) (hP:P<=n) (hi:i < rows.length):∃D:Nat,0 < D/\D<=2^(min rows.length n*(w+4)+a)/\∀c,Tp D (2^(min rows.length n*(w+4))) (b7 rs i c):=by
 obtain ⟨len,wide,pm,l,d,B,E,v⟩:=h;obtain ⟨W,hW,W2,ent⟩:=F.ent;obtain ⟨_,_,_,_,_,_,_,r15,_⟩:=id F;have kP:=E.kP;have km:=B.km;have mono:∀{s t:Nat},s<=t->(16*W)^s<=(16*W)^t:=λhs=>ar (cD (by decide) hW) hs
 obtain ⟨y,ey⟩:=uB (B.dfr (W:=W) (N:=16) (by lia) ent);have hy:=B.dfr (W:=W) (N:=16) (by lia) ent;rw[ey] at hy;have yb:y.natAbs<=2^(min rows.length n*(w+4)):=aj (sP hy) (aj (mono (show ps.length<=min rows.length n by lia)) (sE W2));have y0:y≠0:=λz=>B.d0 (by rw[ey,z];rfl)
 have lb:∀c,∃z:Int,l i c=(z:Rat)/\z.natAbs<=2^(min rows.length n*(w+4)):=λc=>by
  by_cases hk:i < ps.length
  ·have f:Fr 1 ((16*W)^ps.length) (l i c):=by
    rw[B.old hk]
    have:=yj (W:=W) (N:=16) (rs:=Ap pm ps.length) (vs:=FL (λj r=>dn (rows.map fw) r (ps.getD j 0)) i ps.length++(λr=>dn (rows.map fw) r c) :: oZ (λj r=>dn (rows.map fw) r (ps.getD j 0)) i) (by
     have:=congrArg List.length (cw_split (v:=λj r=>dn (rows.map fw) r (ps.getD j 0)) hk);rw[aw,bq,cw_len] at this;rw[aw,bq]
     lia) (by
     intro v hv r hr
     have hr':∀c,Fr 1 W (dn (rows.map fw) r c):=λc=>by
      obtain ⟨t,ht,rfl⟩:=nG hr;exact ent _ (B.rng t (by lia)) c
     rcases ax.mp hv with hv | hv
     ·obtain ⟨t,_,rfl⟩:=Ds hv;exact hr' _
     ·rcases aE.mp hv with rfl | hv
      ·exact hr' _
      ·obtain ⟨t,_,rfl⟩:=cw_in hv;exact hr' _)
    rwa [sC] at this
   obtain ⟨z,ez⟩:=uB f;rw[ez] at f;exact ⟨z,ez,aj (sP f) (aj (mono (by lia)) (sE W2))⟩
  ·by_cases hn:ps.length < n
   ·have f:=B.fr (W:=W) (N:=16) (by lia) hW ent (i:=i) (c:=c) hi;obtain ⟨z,ez⟩:=uB f;rw[ez] at f;exact ⟨z,ez,aj (sP f) (aj (mono (by lia)) (sE W2))⟩
   ·refine ⟨0,?_,bo _⟩;by_cases hc:c < n
    ·rw[E.zero i (by lia) hi c (by lia)];rfl
    ·have:=v i hi c;rw[vT wide (by lia)] at this;have ne:=Fd (rows:=rows) (i:=i) (j:=pm i) (k:=ps.length) B.d0;generalize d*(if i < ps.length then 1 else uq rows (pm i))=D at this ne;show l i c=0
     grind
 obtain ⟨b,b0,b1,eb⟩:∃b:Nat,0 < b/\b<=2^a/\(if i < ps.length then 1 else uq rows (pm i))=(b:Rat):=by
  by_cases hk:i < ps.length
  ·exact ⟨1,by decide,cu,by rw[if_pos hk];rfl⟩
  ·obtain ⟨b,x1,x2,x3⟩:=F.bot (B.rng i hi);exact ⟨b,x1,x2,by rw[if_neg hk,x3]⟩
 have eD:d*(b:Rat)=((y*b:Int):Rat):=by rw[aM,ey,aY]
 refine ⟨(y*b).natAbs,?_,?_,λc=>?_⟩
 ·rw[dI,cB];exact cD (by lia) b0
 ·rw[dI,cB,bI];exact aP yb b1
 ·obtain ⟨z,ez,bz⟩:=lb c;rw[v i hi c,eb];refine Jc ez eD (λq=>?_) bz;rw[eD] at q;have:=nW q;rcases Int.mul_eq_zero.mp this with q | q
  ·exact y0 q
  ·lia
end
theorem uK (h:Tp M W x) (h0:0 < M) (h1:M<=2^3995) (h2:W<=2^3995):oa x:=by
 refine ⟨?_,?_⟩
 ·obtain ⟨s,e,b⟩:=uI h h0 (eV x) (DD _) (pG h);have e2:(((nm x).1:Int):Rat)=(s:Rat):=by rw[<- e];exact i8 x
  rw[cZ.mp e2];exact aV (aj b h2) (dH (by decide) (by decide))
 ·have:=fU h0 (jH.mp (pG h));show ((x.den:Nat):Int).natAbs < _
  rw[cB];exact aV (aj this h1) (dH (by decide) (by decide))
theorem Tp.mul (h:Tp M W x) (h':Tp M' W' y):Tp (M*M') (W*W') (x*y):=by
 obtain ⟨z,e,b⟩:=h;obtain ⟨z',e',b'⟩:=h';refine ⟨z*z',?_,by rw[dI];exact aP b b'⟩;rw[aM,<- e,<- e',wW];grind
theorem Gg (h:oa x) (h0:x≠0):oa (1 / x):=by
 have n0:x.num≠0:=λz=>h0 (Rat.num_eq_zero.mp z)
 have e:=i8 x;have e1:(1 / x)*(x.num:Rat)=(x.den:Rat):=by rw[e];grind
 have t:Tp x.num.natAbs x.den (1 / x):=by
  rcases Kw x.num with q | q
  ·refine ⟨x.den,?_,by simp⟩;have:((x.num.natAbs:Nat):Rat)=(x.num:Rat):=by rw[<- aY,<- q]
   rw[this,e1,aY]
  ·refine ⟨-(x.den:Int),?_,by simp⟩;have:((x.num.natAbs:Nat):Rat)=-(x.num:Rat):=by rw[<- aY,<- dj];congr 1;lia
   rw[this,dj,aY,<- e1];grind
 obtain ⟨h1,h2⟩:=h;have h1:x.num.natAbs < 2^4000:=h1;have h2:((x.den:Nat):Int).natAbs < 2^4000:=h2;rw[cB] at h2;refine ⟨?_,?_⟩
 ·obtain ⟨s,e,b⟩:=uI t (by lia) (eV (1 / x)) (DD _) (pG t);have e2:(((nm (1 / x)).1:Int):Rat)=(s:Rat):=by rw[<- e];exact i8 (1 / x)
  rw[cZ.mp e2];exact aV b h2
 ·have:=fU (show 0 < x.num.natAbs by lia) (jH.mp (pG t));show (((1 / x).den:Nat):Int).natAbs < _
  rw[cB];exact aV this h1
section
variable {X:Cx}
def Hs:V->List V->Hp->VK->Prop:=λx vs H Q=>∃(l:Addr) (bs:List Bool) (c:Bool) (j:Nat),x=.ref l/\vs=[.bl c]/\H l=some (.lst (bs.map V.bl))/\bs[j]?=some c/\(∀m,m < j->bs[m]?≠some c)/\Q (.int (j:Int)) H
theorem CB:∀{bs:List Bool} {us:List Value},cf (bs.map V.bl) us->us=bs.map Value.bool
 | [],_,h=>by cases h;rfl
 | b :: bs,_,h=>by
  cases h with
  | cons a r =>
   cases a;rw[CB r];rfl
theorem E7:Mi X "list.index" Hs:=by
 intro pins s σ H x vs v us Q I rx rv h;obtain ⟨l,bs,c,j,rfl,rfl,hH,hj,hn,q⟩:=h;cases rx;obtain ⟨u,rfl,ru⟩:=rv.one;cases ru;obtain ⟨z,its,n,r,hl,e⟩:=I.lstM hH;obtain rfl:=CB r;have jl:j < bs.length:=(aA.mp hj).1;rw[ag] at z;have big:sizeLine < 2^62:=by decide
 refine call_meets F.slot_list_index ⟨_,e,rfl⟩ F.entry_list_index (F.args_list_index_2 _ _)
  (PySem.SeqAt.list_indexAt l (bs.map Value.bool).toArray n none #[] (.bool c) (isBoolOf c) j (by simpa using jl) (by lia) ?_ ?_) ⟨e,λy hy=>?_,?_⟩
 ·have:bs[j]=c:=(aA.mp hj).2;simp [isBoolOf,this]
 ·intro m hm hmj;have hm':m < bs.length:=by simpa using hm
  have:=hn m hmj;rw[af hm'] at this;simp only[List.getElem_toArray,En,isBoolOf];cases h1:bs[m] <;> cases c <;> simp_all
 ·have hy:y∈bs.map Value.bool:=by simpa using hy
  obtain ⟨b,_,rfl⟩:=ay.mp hy;exact PySem.SeqAt.EqAt.bool_bool b c
 ·exact ⟨.int j,H,I.tok _,⟨_,rfl⟩,q⟩
end
theorem JN (K:FG9) {X:Cx} {o e:Expr} {es:List Expr} {to:TE} {t:TA} {name:Str} {apos cpos:Pos} {T id:String} {r:V->List V->Hp->VK->Prop} (pa:PlainAttrs T) (slot:Slot T name id) (hty:typeOf (.builtin id)=pure (.type "method_descriptor")) (hm:MtR X id r) (ho:PE X o to) (ha:PA X (e :: es) t) (hK:X.K=K:=by rfl)
  (hbase:attributeBase o name X.env (eval o X.env)=eval o X.env:=by rfl)
  (hfew:((backTo cpos (starEach (e :: es) X.env)).all (λx=>!x.1) && (backToKw cpos (keywordEach [] X.env)).all (λx=>x.1.isSome)
   && decide ((e :: es).length+([]:List Keyword).length+(if ([]:List Keyword).isEmpty then 0 else 1) < 30))=true:=by rfl)
  (hline:(apos.endLine == cpos.line)=true:=by rfl) (hs:starEach (e :: es) X.env=(false,eval e X.env) :: starEach es X.env:=by rfl) (hplain:(backTo cpos (starEach es X.env)).any (·.1)=false:=by rfl) :
  PE X (.Call (.Attribute o name apos) (e :: es) [] cpos) (L4 K T r to t):=by subst hK;exact sX pa slot hty hm ho ha hbase hfew hline hs hplain
inductive uO (K:FG9) (vs:List V) (H:Hp) (Q:VK) (E9:XK):Prop
 | mk (u v:V) (x y:Rat):vs=[u,v]->bX K H x u->bX K H y v->oa x->oa y->y≠0->(∀r H',aF H H'->bX K H' (x / y) (.ref r)->Q (.ref r) H')->uO K vs H Q E9
theorem A1 {K:FG9} (h:uO K vs H Q E):Gy K vs H Q E:=by
 obtain ⟨u,v,x,y,rfl,⟨p,rfl,hp⟩,⟨q,rfl,hq⟩,⟨s1,s2⟩,⟨s3,s4⟩,y0,k⟩:=h;have n0:(nm y).1≠0:=λz=>y0 (Rat.num_eq_zero.mp z)
 have px:=eV x;have py:=eV y;have e1:=lW x;have e2:=lW y;have dx:(((nm x).2:Int):Rat)≠0:=λz=>by have:=nW z;lia
 have dy:(((nm y).2:Int):Rat)≠0:=λz=>by have:=nW z;lia
 refine ⟨p,q,_,_,_,_,rfl,hp,hq,px,py,n0,s1,s2,s3,s4,λr H' s g=>k r H' s (bX.mk g ?_)⟩;by_cases hc:(nm y).1 < 0
 ·rw[if_pos hc,if_pos hc];refine mC (by have:=p7 px hc;lia) ?_;rw[wX,wX,aM,aM,e1,e2];show x / y*(((0:Int):Rat) - _)=((0:Int):Rat) - _
  grind
 ·rw[if_neg hc,if_neg hc];refine mC (gQ px (by lia)) ?_;rw[aM,aM,e1,e2];grind
inductive xM (K:FG9) (vs:List V) (H:Hp) (Q:VK) (E9:XK):Prop
 | mk (p q:Addr) (xs ys:List Rat):vs=[.ref p,.ref q]->dg K H p xs->dg K H q ys->ys.length=xs.length->xs.length<=1000->(∀x∈xs,oa x)->(∀y∈ys,oa y)->(∀r H',H r=none->aF H H'->dg K H' r (List.zipWith (λx y=>x - y) xs ys)->Q (.ref r) H')->xM K vs H Q E9
theorem Ka {xs ys:List Rat} (h:xs.length=ys.length):(List.zipWith (λx y=>x - y) xs ys).getD c 0=xs.getD c 0 - ys.getD c 0:=by
 rw[aa,aa,aa,du];by_cases hc:c < xs.length
 ·rw[af hc,af (show c < ys.length by lia)];rfl
 ·rw[be (by lia),be (by lia)];show (0:Rat)=0 - 0
  grind
theorem Fu {xs:List Rat}:(xs.map λy=>q*y).getD c 0=q*xs.getD c 0:=by
 rw[aa,aa,aD];cases xs[c]? with
 | none=>show (0:Rat)=q*0;grind
 | some x=>rfl
inductive AL (K:FG9) (vs:List V) (H:Hp) (Q:VK) (E9:XK):Prop
 | mk (p:Addr) (n:Nat) (H0:Hp) (R:LR9) (ps:List Nat):vs=[.ref p]->bg K H0 H p R->R.length<=100->n<=100->(∃rows,bB rows n R ps)->(∀r H',H r=none->aF H H'->H' r=some (.lst (ck ps))->Q (.ref r) H')->AL K vs H Q E9
theorem BE {xs ys:List Rat} (h:ys.length=xs.length):List.zipWith (λx y=>x - y) xs ys=(List.range xs.length).map λi=>xs.getD i 0 - ys.getD i 0:=by
 apply DC;intro i;rw[du,aD];by_cases hi:i < xs.length
 ·rw[cS hi,af hi,af (show i < ys.length by lia)];simp [aa,af hi,af (show i < ys.length by lia)]
 ·rw[be (show (List.range xs.length).length<=i by simp;lia),be (show xs.length<=i by lia)];rfl
theorem sO {K:FG9} {rows:LR9} (pr:Paired (cA K H0 H) rows vs) (s:aF H H') (n:H q=none) (g:H' q=some (.lst vs)):bg K H0 H' q rows :=
 ⟨vs,g,Paired.imp' (λ_ _ z=>z.same s) pr,λz=>by
  obtain ⟨_,_,q',e,_,_,g',_⟩:=cC pr z;cases e;rw[n] at g';cases g'⟩
theorem Ge:oa 1:=uK (M:=1) (W:=1) ⟨1,by simp,by decide⟩ (by decide) cu cu
theorem bB.le (h:bB rows n R ps):ps.length<=n:=by
 obtain ⟨_,_,rr⟩:=h;rcases bR n ps.length with z | z
 ·have inc:∀j,j < ps.length->j<=ps.getD j 0:=by
   intro j
   induction j with
   | zero=>intro _;exact bo _
   | succ j ih =>
    intro hj;have:=ih (by lia);have:=rr.inc j (j+1) (by lia) hj
    lia
  have h1:=inc (ps.length - 1) (by lia);have h2:=rr.low (ps.length - 1) (by lia)
  lia
 ·exact z
theorem Tp.zero:Tp M W 0:=⟨0,by simp,by simp⟩
theorem Tp.add (h:Tp M W x) (h':Tp M W' y):Tp M (W+W') (x+y):=by
 obtain ⟨z,e,b⟩:=h;obtain ⟨z',e',b'⟩:=h';refine ⟨z+z',?_,aj (Int.natAbs_add_le _ _) (Nat.add_le_add b b')⟩;rw[wY,<- e,<- e'];grind
theorem Tp.sum {M W:Nat} {f:Nat->Rat}:∀{k:Nat},(∀j,j < k->Tp M W (f j))->Tp M (k*W) (bS k f)
 | 0,_=>Tp.zero
 | k+1,h=>by
  have:=(Tp.sum (k:=k) λj hj=>h j (by lia)).add (h k (by lia));exact this.mono (by rw[j3];exact ao _)
theorem yX {xs:List Rat} (h:∀x∈xs,Tp M W x) (c:Nat):Tp M W (xs.getD c 0):=by
 by_cases hc:c < xs.length
 ·exact h _ (getD_in hc)
 ·rw[aa,be (by lia)];exact Tp.zero
theorem Kx (h:∀xs∈R,∀x∈xs,Tp M W x) (i c:Nat):Tp M W (b7 R i c):=by
 unfold b7;by_cases hi:i < R.length
 ·exact yX (h _ (getD_in hi)) c
 ·rw[aa (l:=R),be (by lia)];exact Tp.zero
theorem Ee {K:FG9} {g:TG} (Pv:Nat->List V->Hp->Prop) (hz:xs.length<=sizeLine) (h0:Pv 0 [] H) (hl:∀i ys H,i<=xs.length->Pv i ys H->bD K H l xs)
  (hs:∀i x ys H p,xs[i]?=some x->ys.length<=i->Pv i ys H->H p=none->mU σ₀ g tf te (.ref p) (upd H p (.tup [.int i,x])) (λy H'=>Pv (i+1) (ys++[y]) H') (λH'=>Pv (i+1) ys H'))
  (hd:∀ys H,ys.length<=xs.length->Pv xs.length ys H->∀p,H p=none->Q (.ref p) (upd H p (.lst ys))):oh (Kn K l) σ₀ g tf te Q H:=by
 refine ⟨λi m ys H=>m=xs.length - i/\i<=xs.length/\ys.length<=i/\Pv i ys H,⟨xs.length,by simp,bo _,bo _,h0⟩,?_⟩;rintro i m ys H ⟨rfl,hi,hy,p⟩;have q1:=hl i ys H hi p;by_cases hlt:i < xs.length
 ·refine .inr ⟨⟨xs,xs[i],q1,by simp [hlt]⟩,by lia,λy H'=>Pv (i+1) (ys++[y]) H',λH'=>Pv (i+1) ys H',λy H' p'=>⟨xs.length - (i+1),by lia,rfl,hlt,by rw[aw,aS];lia,p'⟩,λH' p'=>⟨xs.length - (i+1),by lia,rfl,hlt,by lia,p'⟩,λx H' y=>?_⟩;obtain ⟨r,x',rfl,hr,rfl,e1⟩:=y;exact hs i x' ys _ r (e1 xs q1) hy p hr
 ·have e:i=xs.length:=by lia
  subst e;exact .inl ⟨⟨xs,q1,ao _⟩,by lia,hd ys H hy p⟩
section
variable {X:Cx}
theorem Ef (hc:X.calm=true):oi X (.builtin "min") (λxs H Q=>∃(p:Addr) (ns:List Int),xs=[.ref p]/\bD X.K H p (ns.map V.int)/\0 < ns.length/\∀M,M∈ns->(∀a,a∈ns->M<=a)->Q (.int M) H):=by
 intro pins s σ H xs us Q I r h;obtain ⟨p,ns,rfl,hp,hne,q⟩:=h;obtain ⟨u,rfl,ru⟩:=vals1 r;cases ru;obtain ⟨its,r2,pl,_⟩:=I.list hp;have hi:=intsAre_of r2;have hl:=pl.isList;obtain ⟨xs,e⟩:=hi.allInts.items
 have hns:ns=xs.toList.map (·.1):=by
  rw[<- hi.numsOf,<- nums_intItems,<- e]
 have hsz:0 < xs.size:=by
  have h3:=hne;rw[hns,ag,Array.length_toList] at h3;exact h3
 rw[e] at hl;refine min_intList (I.ok.hd hc) hl hsz λv h' tk hv hk=>?_
 obtain ⟨t,rfl⟩:=intItems_at hv;obtain ⟨h1,h2⟩:=argBest_lt (numAt xs) (xs.size - 1);refine ⟨.int _,H,I.kept hk,⟨_,rfl⟩,q _ ?_ λa ha=>?_⟩
 ·rw[hns,numAt_eq];exact getD_in (by rw[ag,Array.length_toList];lia)
 ·rw[hns] at ha;obtain ⟨j,hj,rfl⟩:=mem_getD ha;rw[ag,Array.length_toList] at hj;rw[<- numAt_eq];exact h2 j (by lia)
theorem oK (K:FG9) (hK:X.K=K):sT X (compareOp .NotIn) (rIn K true):=by subst hK;exact zF
end
theorem Bh {j:Nat}:LQ (.int (j:Int)) (ck ps)=decide (j∈ps):=by
 unfold LQ ck;rw[List.any_map,je,List.any_eq_true,decide_eq_true_iff];constructor
 ·rintro ⟨x,hx,e⟩;have e:((x:Int) == (j:Int))=true:=e;have:(x:Int)=j:=by simpa using e
  have:x=j:=by lia
  rw[<- this];exact hx
 ·intro h;exact ⟨j,h,by show ((j:Int) == (j:Int))=true;simp⟩
theorem xZ:(ck ps).all qO=true:=by
 unfold ck;rw[List.all_map];exact kT.mpr λ_ _=>rfl
theorem nL:(ck ps).length=ps.length:=ag ..
def nP (ps:List Nat):List Int:=ps.map λ(j:Nat)=>(j:Int)
theorem xY:ck ps=(nP ps).map V.int:=by unfold ck nP;rw[oA];rfl
theorem paired_ints {K:FG9} {H:Hp}:∀{zs:List Int},Paired (λa x=>Cf.R K H x a) zs (zs.map V.int)
 | []=>.nil
 | z :: zs=>.cons rfl paired_ints
theorem ow {K:FG9} (h:H p=some (.lst (ck ps))):(Fh Cf).R K H (.ref p) (nP ps):=⟨p,ck ps,rfl,bD.of h,by rw[xY];exact paired_ints⟩
theorem C0 {i:Nat} (h:(ck ps)[i]?=some v):∃j,ps[i]?=some j/\v=V.int (j:Int):=by
 unfold ck at h;rw[aD] at h;cases e:ps[i]? with
 | none=>rw[e] at h;cases h
 | some x=>rw[e] at h;exact ⟨x,rfl,(bQ h).symm⟩
def A6 (xs:List Rat) (i:Nat):List Nat:=(List.range i).filter λc=>decide (xs.getD c 0≠0)
theorem uw:A6 xs (i+1)=if xs.getD i 0≠0 then A6 xs i++[i] else A6 xs i:=by
 unfold A6;rw[mS,List.filter_append];by_cases h:xs.getD i 0≠0
 ·rw[if_pos h,LJ (by simpa using h)];rfl
 ·rw[if_neg h,LM (by simpa using h)];simp
def gP (ps:List Nat) (i:Nat):List Nat:=(List.range i).filter λc=>decide (c∉ps)
theorem nR:gP ps (i+1)=if i∉ps then gP ps i++[i] else gP ps i:=by
 unfold gP;rw[mS,List.filter_append];by_cases h:i∉ps
 ·rw[if_pos h,LJ (by simpa using h)];rfl
 ·rw[if_neg h,LM (by simpa using h)];simp
theorem Cn:(gP ps i).length<=i:=by
 unfold gP;exact aj (List.length_filter_le ..) (by rw[bC];exact ao _)
inductive AK (K:FG9) (vs:List V) (H:Hp) (Q:VK) (E9:XK):Prop
 | mk (p:Addr) (xs:List Rat) (j:Nat):vs=[.ref p]->dg K H p xs->xs.length<=1000->j < xs.length->xs.getD j 0≠0->(∀c,c < j->xs.getD c 0=0)->(∀H',aF H H'->Q (.int (j:Int)) H')->AK K vs H Q E9
inductive uU (K:FG9) (vs:List V) (H:Hp) (Q:VK) (E9:XK):Prop
 | mk (p:Addr) (n:Nat) (H0:Hp) (R:LR9) (ps:List Nat):vs=[.ref p,.int n]->bg K H0 H p R->R.length<=100->n<=100->(∃rows,bB rows n R ps)->(∀r H',H r=none->aF H H'->H' r=some (.lst (ck (gP ps n)))->Q (.ref r) H')->uU K vs H Q E9
def Lh (R:LR9) (ps:List Nat) (n at_ j:Nat):List Rat:=(List.range n).map λc=>if c=at_ then 1 else bS j λi=>if ps.getD i 0=c then -(b7 R i at_) else 0
def xf (R:LR9) (ps:List Nat) (n at_:Nat):List Rat:=Lh R ps n at_ ps.length
def lX (R:LR9) (ps:List Nat) (n:Nat):LR9:=(gP ps n).map (xf R ps n)
section
variable {R rows:LR9} {ps:List Nat} {n a j:Nat}
theorem vH:(Lh R ps n a j).length=n:=by unfold Lh;rw[ag,bC]
theorem E2 (h:c < n):(Lh R ps n a j).getD c 0=if c=a then 1 else bS j λi=>if ps.getD i 0=c then -(b7 R i a) else 0:=by
 unfold Lh;rw[aa,aD,cS h];rfl
theorem CZ (hc:c < n) (hp:c∉ps):(xf R ps n a).getD c 0=if c=a then 1 else 0:=by
 unfold xf;rw[E2 hc];by_cases e:c=a
 ·rw[if_pos e,if_pos e]
 ·rw[if_neg e,if_neg e,c5 λi hi=>?_];rw[if_neg (λz=>hp (by rw[<- z];exact getD_in hi))]
theorem jE:∀{xs ys:List Rat},xs.length=ys.length->eh xs ys=bS xs.length λc=>xs.getD c 0*ys.getD c 0:=by
 intro xs ys h
 have key:∀k,k<=xs.length->eh (xs.take k) (ys.take k)=bS k λc=>xs.getD c 0*ys.getD c 0:=by
  intro k
  induction k with
  | zero=>intro _;rfl
  | succ k ih =>
   intro hk;rw[yk (by lia) (by lia),ih (by lia)];rfl
 have:=key xs.length (ao _);rwa [aG (ao _),aG (by lia)] at this
theorem Ca (RR:bB rows n R ps) (ha:a < n) (hp:a∉ps) {i:Nat} (hr:rows[i]?=some row) (hw:row.length=n):eh row (xf R ps n a)=0:=by
 obtain ⟨_,_,rr⟩:=RR;have hi:=(aA.mp hr).1;have ef:∀c,b7 rows i c=row.getD c 0:=λc=>by unfold b7;rw[aa (l:=rows),hr];rfl
 have co:=rr.coef (rr.span i hi) a;rw[ef] at co;rw[jE (by unfold xf;rw[vH,hw]),hw]
 have e1:bS n (λc=>row.getD c 0*(xf R ps n a).getD c 0)=bS n (λc=>(if c=a then row.getD a 0 else 0)+bS ps.length λj=>if ps.getD j 0=c then row.getD (ps.getD j 0) 0*-(b7 R j a) else 0):=by
  refine bw λc hc=>?_
  unfold xf;rw[E2 hc];by_cases e:c=a
  ·rw[if_pos e,if_pos e,e,c5 λj hj=>?_]
   ·grind
   ·rw[if_neg (λz=>hp (by rw[<- z];exact getD_in hj))]
  ·rw[if_neg e,if_neg e,<- dM,Rat.zero_add];refine bw λj _=>?_
   split
   ·rename_i q;rw[q]
   ·grind
 rw[e1,mW,dD (i:=a) ha (λj _ ne=>if_neg ne),if_pos rfl,<- kE]
 have e2:bS ps.length (λj=>bS n λc=>if ps.getD j 0=c then row.getD (ps.getD j 0) 0*-(b7 R j a) else 0)=bS ps.length λj=>-1*(b7 rows i (ps.getD j 0)*b7 R j a):=by
  refine bw λj hj=>?_
  rw[dD (i:=ps.getD j 0) (rr.low j hj) λc _ ne=>if_neg λz=>ne z.symm,if_pos rfl,ef];grind
 rw[e2,dM,co];grind
theorem Lf (h0:0 < M) (hW:M<=W) (tp:∀xs∈R,∀x∈xs,Tp M W x) (RR:bB rows n R ps):∀x∈xf R ps n a,Tp M W x:=λx hx=>by
 obtain ⟨_,_,rr⟩:=RR;obtain ⟨c,hc,rfl⟩:=ay.mp hx
 split
 ·exact ⟨M,by rw[yP,aY],by simpa using hW⟩
 ·by_cases hp:∃j,j < ps.length/\ps.getD j 0=c
  ·obtain ⟨j,hj,e⟩:=hp;rw[dD hj λi hi ne=>if_neg λz=>?_,if_pos e]
   ·obtain ⟨z,ez,b⟩:=Kx tp j a;exact ⟨-z,by rw[dj,<- ez];grind,by rw[pC];exact b⟩
   ·rcases eP i j with q | q | q
    ·have:=rr.inc i j q hj;lia
    ·exact ne q
    ·have:=rr.inc j i q hi;lia
  ·rw[c5 λj hj=>if_neg λz=>hp ⟨j,hj,z⟩];exact Tp.zero
theorem Aa:c∈gP ps n↔c < n/\c∉ps:=by
 unfold gP;rw[jb,pB,decide_eq_true_iff]
end
theorem ou (h:xs∈lX R ps n):∃a,a < n/\a∉ps/\xs=xf R ps n a:=by
 obtain ⟨a,ha,rfl⟩:=ay.mp h;obtain ⟨h1,h2⟩:=Aa.mp ha;exact ⟨a,h1,h2,rfl⟩
theorem HS {q:Rat} (h:q.den<=9):q.den∣2520:=by
 have:=q.den_pos;generalize q.den=d at h this;have:d=1\/d=2\/d=3\/d=4\/d=5\/d=6\/d=7\/d=8\/d=9:=by lia
 rcases this with rfl | rfl | rfl | rfl | rfl | rfl | rfl | rfl | rfl <;> decide
theorem Kg (h:Dr 9 q) (hM:2520∣M):Fr M 9 q:=(Fr.own q h.1).dvd (Nat.dvd_trans (HS h.2) hM)
section
variable {rows:LR9} {ws xs row:List Rat} {n j:Nat}
theorem JS:(rows.map λxs=>xs.getD c 0).getD i 0=b7 rows i c:=by
 unfold b7;rw[aa,aD,aa (l:=rows)];cases rows[i]? with
 | none=>rfl
 | some y=>rfl
end
theorem Fr.up {M V M' V':Nat} (h:Fr M V x) (hd:M∣M') (hv:V<=V'):Fr M' V' x:=(h.dvd hd).mono hv
section
variable {rows R:LR9} {due:List Rat} {ps:List Nat} {n:Nat}
theorem HQ {M V D B:Nat} (h:ys.length=xs.length) (hx:∀x∈xs,Fr M V x) (hy:∀y∈ys,Fr D B y):Fr (M*D) (xs.length*(V*B)) (eh xs ys):=by
 rw[jE h.symm]
 have key:∀j,j<=xs.length->Fr (M*D) (j*(V*B)) (bS j λc=>xs.getD c 0*ys.getD c 0):=by
  intro j
  induction j with
  | zero=>intro _;exact Fr.zero
  | succ j ih =>
   intro hj;exact ((ih (by lia)).add ((hx _ (getD_in (by lia))).mul (hy _ (getD_in (by lia))))).mono (Nat.le_of_eq (j3 j (V*B)).symm)
 exact key _ (ao _)
end
def oC (rows us:LR9):LR9:=List.zipWith (λx y=>x++y) rows us
def Aq (A:LR9) (n:Nat):Prop:=A.length=n/\∀xs∈A,xs.length=n
def Ib (A B:LR9) (n:Nat):Prop:=∀i,i < n->∀k,k < n->bS n (λj=>b7 A i j*b7 B j k)=if i=k then 1 else 0
section
variable {rows us A B R R0:LR9} {n m i c:Nat} {ps ps0:List Nat}
theorem sL (h:us.length=rows.length):(oC rows us).length=rows.length:=by unfold oC;rw[cR];lia
theorem Fi (h1:rows[i]?=some x) (h2:us[i]?=some y):(oC rows us)[i]?=some (x++y):=by
 unfold oC;rw[du,h1,h2]
theorem zZ (h:∀xs∈rows,xs.length=n) (h':∀xs∈us,xs.length=m):∀xs∈oC rows us,xs.length=n+m:=λxs hx=>by
 unfold oC at hx;obtain ⟨i,hi,rfl⟩:=bK hx;rw[mR,aw,h _ (aZ _),h' _ (aZ _)]
theorem C8 (h:us.length=rows.length) (hw:∀xs∈rows,xs.length=n) (hi:i < rows.length):(∀c,c < n->b7 (oC rows us) i c=b7 rows i c)/\∀c,b7 (oC rows us) i (n+c)=b7 us i c:=by
 have e1:=af hi;have e2:=af (show i < us.length by lia);have e3:=Fi e1 e2;have w1:=hw _ (aZ hi);refine ⟨λc hc=>?_,λc=>?_⟩
 ·unfold b7;rw[aa (l:=oC rows us),e3,aa (l:=rows),e1];show (rows[i]++us[i]).getD c 0=rows[i].getD c 0
  rw[aa,bZ (by lia),aa]
 ·unfold b7;rw[aa (l:=oC rows us),e3,aa (l:=us),e2];show (rows[i]++us[i]).getD (n+c) 0=us[i].getD c 0
  rw[aa,bu (by lia),aa,w1,show n+c - n=c by lia]
theorem uG:Aq (cT n) n:=⟨by unfold cT;rw[ag,bC],λxs hx=>by
 unfold cT at hx;obtain ⟨i,_,rfl⟩:=ay.mp hx;unfold j8;rw[ag,bC]⟩
theorem Ii (hi:i < n) (hc:c < n):b7 (cT n) i c=if i=c then 1 else 0:=by
 unfold b7 cT;rw[aa (l:=List.map _ _),aD,cS hi];show (j8 n i).getD c 0=_
 unfold j8;rw[aa,aD,cS hc];show (if ((c:Nat):Int)=i then (1:Rat) else 0)=_
 by_cases e:i=c
 ·rw[if_pos (by lia),if_pos e]
 ·rw[if_neg (by lia),if_neg e]
theorem qC (hi:i < n):(List.range n).getD i 0=i:=by
 rw[aa,cS hi];rfl
theorem Dl {f:Nat->Rat} (hi:i < n):bS n (λj=>f j*(if j=i then 1 else 0))=f i:=by
 rw[dD hi λj _ hj=>by rw[if_neg hj];grind,if_pos rfl];grind
theorem Fl (hA:Aq A n) (hB:Aq B n) (h1:Ib B A n) (h2:Ib A B n):bB (oC A (cT n)) (n+n) (oC (cT n) B) (List.range n):=by
 obtain ⟨lA,wA⟩:=hA;obtain ⟨lB,wB⟩:=hB;obtain ⟨lU,wU⟩:=uG (n:=n);have lJ:(oC A (cT n)).length=n:=by rw[sL (by lia),lA]
 have lK:(oC (cT n) B).length=n:=by rw[sL (by lia),lU]
 have jl:∀i,i < n->∀c,c < n->b7 (oC A (cT n)) i c=b7 A i c:=λi hi c hc=>(C8 (by lia) wA (by lia)).1 c hc
 have jr:∀i,i < n->∀c,c < n->b7 (oC A (cT n)) i (n+c)=if i=c then 1 else 0:=λi hi c hc=>by
  rw[(C8 (by lia) wA (by lia)).2 c,Ii hi hc]
 have kl:∀i,i < n->∀c,c < n->b7 (oC (cT n) B) i c=if i=c then 1 else 0:=λi hi c hc=>by
  rw[(C8 (by lia) wU (by lia)).1 c hc,Ii hi hc]
 have kr:∀i,i < n->∀c,b7 (oC (cT n) B) i (n+c)=b7 B i c:=λi hi c=>(C8 (by lia) wU (by lia)).2 c
 have wJ:=zZ wA wU;have wK:=zZ wU wB
 have split:∀c:Nat,c < n\/(∃d,c=n+d/\d < n)\/n+n<=c:=λc=>by
  by_cases h:c < n
  ·exact .inl h
  ·by_cases h':n+n<=c
   ·exact .inr (.inr h')
   ·exact .inr (.inl ⟨c - n,by lia,by lia⟩)
 refine ⟨by rw[lK,bC],wK,λi j hi hj=>?_,λj hj=>?_,λi hi j hj=>?_,λi hi c hc=>?_,λi hi=>⟨λj=>b7 A i j,λc=>?_⟩,λi hi=>⟨λj=>b7 B i j,λc=>?_⟩⟩
 ·rw[bC] at hj;rw[qC hj,qC (by lia)];exact hi
 ·rw[bC] at hj;rw[qC hj]
  lia
 ·rw[bC] at hi hj;rw[qC hj];exact kl i hi j hj
 ·rw[bC] at hi;rw[qC hi] at hc;rw[kl i hi c (by lia),if_neg (by lia)]
 ·rw[lJ] at hi;rw[bC];rcases split c with hc | ⟨d,rfl,hd⟩ | hc
  ·rw[jl i hi c hc,bw (g:=λj=>b7 A i j*(if j=c then 1 else 0)) λj hj=>by rw[kl j hj c hc],Dl hc]
  ·rw[jr i hi d hd,<- h2 i hi d hd];exact bw λj hj=>by rw[kr j hj d]
  ·rw[vT wJ hc,c5 λj _=>by rw[vT wK hc];grind]
 ·rw[bC] at hi;rw[lJ];rcases split c with hc | ⟨d,rfl,hd⟩ | hc
  ·rw[kl i hi c hc,<- h1 i hi c hc];exact bw λj hj=>by rw[jl j hj c hc]
  ·rw[kr i hi d,bw (g:=λj=>b7 B i j*(if j=d then 1 else 0)) λj hj=>by rw[jr j hj d hd],Dl hd]
  ·rw[vT wK hc,c5 λj _=>by rw[vT wJ hc];grind]
theorem HK (hA:Aq A n) (hB:B.length=n):(oC A B).map (λxs=>xs.drop n)=B:=by
 obtain ⟨lA,wA⟩:=hA;apply iF (by rw[ag,sL (by lia)];lia);intro i h1 h2;have e:(oC A B)[i]?=some (A[i]'(by lia)++B[i]):=Fi (af _) (af _);rw[ag] at h1;rw[En,(aA.mp e).2];have:=wA _ (aZ (show i < A.length by lia));rw[FX (by lia),j6 (by lia)];rfl
end
section
variable {X:Cx}
theorem BG:∀{n:Nat} {us:List Value},us.length=n->(∀(j:Nat) (v:Value),us[j]?=some v->∃t,v=.int ((0:Int)+(j:Int)*1) t)->cf (ck (List.range n)) us:=by
 intro n
 induction n with
 | zero=>intro us h _;rw[List.length_eq_zero_iff.mp h];exact .nil
 | succ n ih =>
  intro us h hv
  have h1:=ih (us:=us.take n) (by rw[cQ];lia) λj v e=>by
   have hj:j < n:=by have:=(aA.mp e).1;rw[cQ] at this;lia
   rw[iX hj] at e;exact hv j v e
  obtain ⟨t,ht⟩:=hv n (us[n]'(by lia)) (af _);have e:us=us.take n++[us[n]'(by lia)]:=by rw[<- List.take_succ_eq_append_getElem (by lia),aG (by lia)]
  rw[e,mS];unfold ck at h1 ⊢;rw[bH];refine cf.append h1 (.cons ?_ .nil);rw[ht];exact ⟨t,by simp⟩
def uJ (ta:TA):TE:=λσ H Q=>ta σ H λvs H1=>∃n:Nat,vs=[.int n]/\n<=1000/\∀L H',aF H1 H'->H1 L=none->H' L=some (.lst (ck (List.range n)))->Q (.ref L) H'
theorem zC {e1:Expr} {ta:TA} {p p2 pos pos2:Pos} (hg:Gl X "list") (hm:X.mg "list"=none) (hg2:Gl X "range") (hm2:X.mg "range"=none) (ha:PA X [e1] ta) (hc:X.calm=true:=by rfl)
  (hs:starEach [e1] X.env=[(false,eval e1 X.env)]:=by rfl)
  (hs3:starEach [Expr.Call (.Name "range" p2) [e1] [] pos2] X.env=[(false,eval (.Call (.Name "range" p2) [e1] [] pos2) X.env)]:=by rfl) :
  PE X (.Call (.Name "list" p) [.Call (.Name "range" p2) [e1] [] pos2] [] pos) (uJ ta):=by
 intro pins s σ H Q I h;refine wpAny_Call_Name_kw (ib I hg hm boot_list ?_);refine PyProof.Rows.callWith_type1 ?_ (by rw[hs3];rfl) rfl;rw[hs3];show wpAny _ _ (spliced ((false,eval (.Call (.Name "range" p2) [e1] [] pos2) X.env) :: [])) _ _ s
 refine Calls.spliced_cons ?_;refine Call_ (ib I hg2 hm2 boot_range (PyProof.Rows.callWith_type1 (eJ (ha pos2 pins s σ H _ I h) λus s1 ⟨vs,H1,I1,r1,q1⟩=>?_) hs rfl));obtain ⟨n,e,hn,q⟩:=q1;subst e;obtain ⟨u,rfl,t,rfl⟩:=vals1 r1;refine call_range_1 ?_;refine Calls.spliced_nil ?_;have kp:∀b o,s1.heap.get? b=some o->(s1.heap.push { cls:=.type "range",data:=.fields #[.int 0 s1.toks,.int n t,.int 1 (s1.toks+1)] }).get? b=some o:=λb o e=>Heap.get?_push_of_some _ e
 refine call_list_range (I.ok.hd hc) (IsRange.new ..) (small_one (by lia) (by lia) (by lia) (by lia)) (n:=n) (by rw[rangeSize_one];split <;> lia) (by lia) λh' tk acc c hk hS hacc=>?_
 have sz:s1.heap.objs.size<=(s1.heap.push { cls:=.type "range",data:=.fields #[.int 0 s1.toks,.int n t,.int 1 (s1.toks+1)] }).objs.size:=by rw[Heap.size_push];exact mO _
 have nS:=I1.hok.fresh sz
 have vs':cf (ck (List.range n)) acc.toList:=BG (by rw[Array.length_toList];exact hacc.1) λj v e=>by
  have:=hacc.2 j v (by rw[<- Array.getElem?_toList];exact e);exact this
 have sl:(ck (List.range n)).length<=sizeLine:=by rw[nL,bC];exact aL (bc hn)
 refine ⟨.ref _,_,I1.laid (o:=.lst (ck (List.range n))) (λb o e=>hk b o (kp b o e)) sz ?_,rfl,q _ _ (aF.new nS) nS aH⟩;exact ⟨sl,acc.toList,c,vs',by simpa using hS⟩
end
section
variable {A B:LR9} {n:Nat}
theorem Ll (M0:0 < M) (hM:M<=W) (h:∀xs∈A,∀x∈xs,Tp M W x):∀xs∈oC A (cT n),∀x∈xs,Tp M W x:=λxs hx x hx'=>by
 unfold oC at hx;obtain ⟨i,hi,rfl⟩:=bK hx;rw[mR] at hx';rcases ax.mp hx' with z | z
 ·exact h _ (aZ _) x z
 ·have m:=aZ (l:=cT n) (n:=i) (by rw[cR] at hi;lia);generalize (cT n)[i]'(by rw[cR] at hi;lia)=ys at m z;unfold cT at m;obtain ⟨j,_,rfl⟩:=ay.mp m;unfold j8 at z;obtain ⟨c,_,rfl⟩:=ay.mp z;by_cases e:((c:Nat):Int)=((j:Nat):Int)
  ·rw[if_pos e];exact ⟨M,by rw[yP];rfl,by simpa using hM⟩
  ·rw[if_neg e];exact ⟨0,by simp,by simp⟩
theorem J5 (hA:Aq A n) (n15:n<=15) (M0:0 < M) (hM:M<=2^w) (w4:w<=4300) (h:∀xs∈A,∀x∈xs,Tp M (2^w) x) (hw:n*(w+4)<=8900):BA (oC A (cT n)) (n+n) w :=
 ⟨M,2^w,M0,aj hM (ar (by decide) w4),cu,ao _,Ll M0 hM h,w4,by rw[sL (by rw[uG.1,hA.1]),hA.1];lia,by rw[sL (by rw[uG.1,hA.1]),hA.1,show min n (n+n)=n by lia];exact hw⟩
end
theorem Bg (h:nP ps=nP qs):ps=qs:=List.map_inj_right (λ_ _ e=>Int.ofNat.inj e) |>.mp h
inductive sV (K:FG9) (vs:List V) (H:Hp) (Q:VK) (E9:XK):Prop
 | mk (p:Addr) (n w:Nat) (H0:Hp) (A:LR9):vs=[.ref p]->bg K H0 H p A->Aq A n->n<=40->BA (oC A (cT n)) (n+n) w->((∀r R M H',bB (oC A (cT n)) (n+n) R (List.range n)->H r=none->aF H H'->bg K H H' r (R.map λxs=>xs.drop n)->0 < M->M<=2^(n*(w+4))->(∀xs∈R.map (λxs=>xs.drop n),∀x∈xs,Tp M (2^(n*(w+4))) x)->Q (.ref r) H')/\(∀R ps H',bB (oC A (cT n)) (n+n) R ps->ps.length<=n->ps≠List.range n->aF H H'->Q .non H'))->sV K vs H Q E9
def kD (K:FG9) (P:Addr->Prop) (H:Hp) (xs:List Rat) (v:V):Prop:=∃q,v=.ref q/\P q/\dg K H q xs
section
variable {K:FG9} {P:Addr->Prop} {H H':Hp} {xs:List Rat} {v:V} {b l:Addr}
theorem kD.same (h:kD K P H xs v) (s:aF H H'):kD K P H' xs v:=by obtain ⟨q,a,c,d⟩:=h;exact ⟨q,a,c,d.same s⟩
theorem kD.updL (h:kD K P H xs v) (hl:H l=some (.lst ys)) (nb:∀q,P q->q≠l):kD K P (upd H l o) xs v:=by obtain ⟨q,a,c,d⟩:=h;exact ⟨q,a,c,d.updL hl (nb q c)⟩
theorem bg.ofE {rows:LR9} (g:H l=some (.lst us)) (h:Paired (kD K P H) rows us) (h0:∀q,P q->H0 q=none) (hn:∀q,P q->q≠l):bg K H0 H l rows :=
 ⟨us,g,Paired.imp' (λ_ _ ⟨q,a,c,d⟩=>⟨q,a,h0 q c,d⟩) h,λz=>by
  obtain ⟨_,_,q,e,c,_⟩:=cC h z;cases e;exact hn _ c rfl⟩
end
theorem nJ {α β:Type} {F G:α->β->Prop}:∀{l1:List α} {l2:List β},(∀a b,b∈l2->F a b->G a b)->Paired F l1 l2->Paired G l1 l2
 | _,_,_,.nil=>.nil
 | _,_,h,.cons a r=>.cons (h _ _ (by simp) a) (nJ (λx y hy=>h x y (by simp [hy])) r)
section
variable {rows rows' R R':LR9} {n w W:Nat} {ps ps':List Nat}
theorem DI (hw:∀xs∈rows,xs.length=n) (hW:1<=W) (ent:∀i,i < (rows.map fw).length->∀c,Fr 1 W (dn (rows.map fw) i c)):∀P,P<=n->∃ls ps d,yN (rows.map fw) n P ls ps d:=by
 intro P
 induction P with
 | zero=>intro _;exact ⟨_,_,_,yN.start λzs hz=>by obtain ⟨x,hx,rfl⟩:=ay.mp hz;rw[qd];exact hw x hx⟩
 | succ P ih =>
  intro hP;obtain ⟨ls,ps,d,I⟩:=ih (by lia);by_cases e:∃t,ps.length<=t/\t < ls.length/\dn ls t P≠0
  ·obtain ⟨t,h1,h2,h3⟩:=e;exact ⟨_,_,_,I.step hW ent h1 h2 h3⟩
  ·exact ⟨_,_,_,I.skip λi h1 h2=>by
    by_cases z:dn ls i P=0
    ·exact z
    ·exact absurd ⟨i,h1,h2,z⟩ e⟩
theorem xR (hw:∀xs∈rows,xs.length=n) (F:BA rows n w):∃R ps d ls,Mf rows n w R ps d ls:=by
 obtain ⟨W,hW,W2,ent⟩:=F.ent;obtain ⟨ls,ps,d,I⟩:=DI hw hW ent n (ao _);obtain ⟨R,S⟩:=I.done hw F;exact ⟨R,ps,d,_,S⟩
theorem Iv (hw:∀xs∈rows,xs.length=n) (F:BA rows n w) (RR:bB rows n R ps):ps.length<=rows.length/\∃M,0 < M/\M<=2^(min rows.length n*(w+4))/\∀xs∈R,∀x∈xs,Tp M (2^(min rows.length n*(w+4))) x:=by
 obtain ⟨R2,ps2,d,ls,S⟩:=xR hw F;obtain ⟨rfl,rfl⟩:=S.rr.same RR;exact ⟨S.km,d.natAbs,Int.natAbs_pos.mpr S.d0,S.dsz,S.tp⟩
theorem D7 {p q:Nat->Nat} (hp:∀i j,i < j->j < k->p i < p j) (hq:∀i j,i < j->j < k->q i < q j) (hs:∀i,i < k->∃j,j < k/\q j=p i):∀i,i < k->p i=q i:=by
 have hqm:∀i j,i<=j->j < k->q i<=q j:=λi j h hj=>by
  rcases bR i j with z | z
  ·exact aL (hq i j z hj)
  ·have:i=j:=by lia
   rw[this];exact ao _
 have hqi:∀i j,i < k->j < k->q i < q j->i < j:=λi j hi hj h=>by
  rcases bR i j with z | z
  ·exact z
  ·have:=hqm j i z hi
   lia
 have key:∀i,i < k->∀j,j < k->q j=p i->i<=j:=by
  intro i
  induction i with
  | zero=>intro _ j _ _;exact bo _
  | succ i ih =>
   intro hi j hj e;obtain ⟨j',hj',e'⟩:=hs i (by lia);have h1:=ih (by lia) j' hj' e';have h2:=hp i (i+1) (by lia) hi;have:=hqi j' j hj' hj (by lia)
   lia
 have key2:∀t i,i+t+1=k->∀j,j < k->q j=p i->j<=i:=by
  intro t
  induction t with
  | zero=>intro i e j hj _;lia
  | succ t ih =>
   intro i e j hj ej;obtain ⟨j',hj',e'⟩:=hs (i+1) (by lia);have h1:=ih (i+1) (by lia) j' hj' e';have h2:=hp i (i+1) (by lia) (by lia);have:=hqi j j' hj hj' (by lia)
   lia
 intro i hi;obtain ⟨j,hj,e⟩:=hs i hi;have h1:=key i hi j hj e;have h2:=key2 (k - 1 - i) i (by lia) j hj e;have:j=i:=by lia
 rw[<- e,this]
theorem DR (h:bB rows n R ps) (h':bB rows' n R' ps') (hl:ps.length=ps'.length) (hs:∀i,i < ps.length->dP ps'.length (b7 R') (b7 R i)):R=R'/\ps=ps':=by
 obtain ⟨l1,w1,r1⟩:=h;obtain ⟨l2,w2,r2⟩:=h'
 have ep:∀i,i < ps.length->ps.getD i 0=ps'.getD i 0:=D7 r1.inc (by rw[hl];exact r2.inc) λi hi=>by
  have u:=r1.unit i hi i hi;rw[if_pos rfl] at u;obtain ⟨j,hj,e⟩:=r2.lead_in (hs i hi) (c:=ps.getD i 0) (by rw[u];decide) (λc hc=>r1.lead i hi c hc);exact ⟨j,by lia,e⟩
 have eps:ps=ps':=by
  apply iF hl;intro i a b;have:=ep i a;rw[aa,aa,af a,af b] at this;exact this
 refine ⟨FA (n:=n) (by lia) w1 w2 λi hi c=>?_,eps⟩;rw[l1] at hi;rw[r2.coef (hs i hi) c,<- hl,dD hi λj hj hj'=>?_]
 ·rw[<- ep i hi];have u:=r1.unit i hi i hi;rw[if_pos rfl] at u;rw[u];grind
 ·rw[<- ep j hj];have u:=r1.unit i hi j hj;rw[if_neg (Ne.symm hj')] at u;rw[u];grind
end
def oB (mv:LR9) (x:List Rat):List Rat:=mv.map λxs=>eh xs x
def kry (mv pt:LR9):Nat->LR9
 | 0=>[]
 | t+1=>pt++(kry mv pt t).map (oB mv)
section
variable {mv pt R R' S X Y:LR9} {n t m i c:Nat} {ps ps':List Nat} {a:Nat->Nat->Rat}
theorem pV:(oB mv x).length=mv.length:=ag ..
theorem EY (lm:mv.length=n) (wm:∀xs∈mv,xs.length=n) (wR:∀xs∈R,xs.length=n) (hi:i < R.length) (c:Nat):b7 (R.map (oB mv)) i c=bS n λj=>b7 mv c j*b7 R i j:=by
 have wi:=wR _ (aZ hi);have e1:(R.map (oB mv)).getD i []=oB mv R[i]:=by rw[aa,aD,af hi];rfl
 have e2:R.getD i []=R[i]:=by rw[aa,af hi];rfl
 by_cases hc:c < n
 ·have wc:=wm _ (aZ (show c < mv.length by lia));have e3:mv.getD c []=mv[c]'(by lia):=by rw[aa,af (by lia)];rfl
  have e4:(oB mv R[i]).getD c 0=eh (mv[c]'(by lia)) R[i]:=by
   unfold oB;rw[aa,aD,af (by lia)];rfl
  unfold b7;rw[e1,e2,e3,e4,jE (by lia),wc]
 ·have e3:mv.getD c []=[]:=by rw[aa,be (by lia)];rfl
  unfold b7
  rw[e1,e3,aa,be (by rw[pV];lia),c5 λj _=>by
   show ([]:List Rat).getD j 0*_=0
   rw[aa];show (0:Rat)*_=0
   grind]
  rfl
theorem uM (lm:mv.length=n) (wm:∀xs∈mv,xs.length=n) (wR:∀xs∈R,xs.length=n) (wS:∀xs∈S,xs.length=n) (hi:i < R.length) (h:dP S.length (b7 S) (b7 R i)):dP (S.map (oB mv)).length (b7 (S.map (oB mv))) (b7 (R.map (oB mv)) i):=by
 obtain ⟨w,hw⟩:=h;refine ⟨w,λc=>?_⟩;rw[EY lm wm wR hi,ag]
 have e1:bS n (λj=>b7 mv c j*b7 R i j)=bS n (λj=>bS S.length λs=>w s*(b7 mv c j*b7 S s j)):=bw λj _=>by
  rw[hw j,<- dM];exact bw λs _=>by grind
 rw[e1,kE];exact bw λs hs=>by rw[dM,EY lm wm wS hs]
theorem Bt (h:i < X.length):b7 (X++Y) i=b7 X i:=by
 funext c;unfold b7;rw[aa (l:=X++Y),bZ h,<- aa]
theorem rh:b7 (X++Y) (X.length+i)=b7 Y i:=by
 funext c;unfold b7;rw[aa (l:=X++Y),bu (by lia),show X.length+i - X.length=i by lia,<- aa]
theorem qj (h1:∀i,i < X.length->dP m a (b7 X i)) (h2:∀i,i < Y.length->dP m a (b7 Y i)):∀i,i < (X++Y).length->dP m a (b7 (X++Y) i):=λi hi=>by
 rw[aw] at hi;by_cases h:i < X.length
 ·rw[Bt h];exact h1 i h
 ·obtain ⟨j,rfl⟩:∃j,i=X.length+j:=⟨i - X.length,by lia⟩;rw[rh];exact h2 j (by lia)
theorem mX (h:i < X.length):dP (X++Y).length (b7 (X++Y)) (b7 X i):=by
 have:=dP.row (a:=b7 (X++Y)) (m:=(X++Y).length) (i:=i) (by rw[aw];lia);rwa [Bt h] at this
theorem kF (h:dP Y.length (b7 Y) x):dP (X++Y).length (b7 (X++Y)) x:=dP.trans (λs hs=>by
 have:=dP.row (a:=b7 (X++Y)) (m:=(X++Y).length) (i:=X.length+s) (by rw[aw];lia);rwa [rh] at this) h
theorem fA (lm:mv.length=n) (wp:∀xs∈pt,xs.length=n):∀t,∀xs∈kry mv pt t,xs.length=n:=by
 intro t
 induction t with
 | zero=>intro xs hx;cases hx
 | succ t ih =>
  intro xs hx;rcases ax.mp hx with hx | hx
  ·exact wp xs hx
  ·obtain ⟨y,_,rfl⟩:=ay.mp hx;rw[pV,lm]
theorem qK (lm:mv.length=n) (wm:∀xs∈mv,xs.length=n) (wp:∀xs∈pt,xs.length=n) (RR:bB (kry mv pt t) n R ps) (RR':bB (pt++R.map (oB mv)) n R' ps'):bB (kry mv pt (t+1)) n R' ps':=by
 have wk:=fA (mv:=mv) lm wp t;refine ⟨RR'.1,RR'.2.1,RR'.2.2.other ?_ ?_⟩
 ·refine qj (λi hi=>mX hi) λi hi=>kF ?_
  rw[ag] at hi;exact uM lm wm RR.2.1 wk hi (RR.2.2.back i (by rw[<- RR.1];exact hi))
 ·refine qj (λi hi=>mX hi) λi hi=>kF ?_
  rw[ag] at hi;have:=RR.2.2.span i hi;rw[<- RR.1] at this;exact uM lm wm wk RR.2.1 hi this
theorem Fg (lm:mv.length=n) (wm:∀xs∈mv,xs.length=n) (wp:∀xs∈pt,xs.length=n):∀t i,i < (kry mv pt t).length->dP (kry mv pt (t+1)).length (b7 (kry mv pt (t+1))) (b7 (kry mv pt t) i):=by
 intro t
 induction t with
 | zero=>intro i hi;cases hi
 | succ t ih =>
  refine qj (λi hi=>mX hi) λi hi=>kF ?_
  rw[ag] at hi;exact uM lm wm (fA lm wp t) (fA lm wp (t+1)) hi (ih i hi)
theorem vQ (lm:mv.length=n) (wm:∀xs∈mv,xs.length=n) (wp:∀xs∈pt,xs.length=n) (RR:bB (kry mv pt t) n R ps) (RR':bB (kry mv pt (t+1)) n R' ps'):∀i,i < ps.length->dP ps'.length (b7 R') (b7 R i):=λi hi =>
 dP.trans (λs hs=>RR'.2.2.span s hs) (dP.trans (Fg lm wm wp t) (RR.2.2.back i hi))
theorem yd (lm:mv.length=n) (wm:∀xs∈mv,xs.length=n) (wp:∀xs∈pt,xs.length=n) (RR:bB (kry mv pt t) n R ps) (RR':bB (pt++R.map (oB mv)) n R' ps') (hl:ps'.length=ps.length):∀s,bB (kry mv pt (t+s)) n R ps:=by
 have K1:=qK lm wm wp RR RR';obtain ⟨e1,e2⟩:=DR RR K1 hl.symm (vQ lm wm wp RR K1);subst e1 e2;intro s
 induction s with
 | zero=>exact RR
 | succ s ih=>exact qK lm wm wp ih RR'
theorem Be (lm:mv.length=n) (wm:∀xs∈mv,xs.length=n) (wp:∀xs∈pt,xs.length=n) (RR:bB (kry mv pt t) n R ps) (RR':bB (kry mv pt (t+1)) n R' ps'):ps.length<=ps'.length:=by
 have h:=vQ lm wm wp RR RR'
 have hs:∀i,i < ps.length->∃j,j < ps'.length/\ps'.getD j 0=ps.getD i 0:=λi hi=>by
  have u:=RR.2.2.unit i hi i hi;rw[if_pos rfl] at u;exact RR'.2.2.lead_in (h i hi) (c:=ps.getD i 0) (by rw[u];decide) (λc hc=>RR.2.2.lead i hi c hc)
 rcases bR ps'.length ps.length with z | z
 ·exfalso
  have key:∀i,i < ps.length->∀j,j < ps'.length->ps'.getD j 0=ps.getD i 0->i<=j:=by
   intro i
   induction i with
   | zero=>intro _ j _ _;exact bo _
   | succ i ih =>
    intro hi j hj e;obtain ⟨j',hj',e'⟩:=hs i (by lia);have h1:=ih (by lia) j' hj' e';have h2:=RR.2.2.inc i (i+1) (by lia) hi;rcases bR j' j with y | y
    ·lia
    ·rcases bR j j' with x | x
     ·have:=RR'.2.2.inc j j' x hj'
      lia
     ·have:j=j':=by lia
      rw[this] at e
      lia
  obtain ⟨j,hj,e⟩:=hs (ps.length - 1) (by lia);have:=key (ps.length - 1) (by lia) j hj e
  lia
 ·exact z
theorem JV {M V c:Nat} (lm:mv.length=n) (wm:∀xs∈mv,xs.length=n) (wp:∀xs∈pt,xs.length=n) (hc:(n+1)*V<=2^c) (fm:GF M V mv) (fp:GF M V pt):∀t,∀xs∈kry mv pt t,∀x∈xs,Fr (M^t) (2^(c*t)) x:=by
 intro t
 induction t with
 | zero=>intro xs hx;cases hx
 | succ t ih =>
  intro xs hx x hx';have hV:V<=2^c:=aj (dZ _ (by lia)) hc;rcases ax.mp hx with hx | hx
  ·refine Fr.up (fp xs hx x hx') (by rw[fE];exact Em _ _) (aj hV (ar (by decide) (c6 _ (by lia))))
  ·obtain ⟨y,hy,rfl⟩:=ay.mp hx;unfold oB at hx';obtain ⟨r,hr,rfl⟩:=ay.mp hx';have wr:=wm r hr;have wy:=fA (mv:=mv) lm wp t y hy;have f:=HQ (by lia) (fm r hr) (ih y hy);rw[fE,cp (M^t)];refine f.mono ?_;rw[fB,Nat.mul_one,bI,cp (2^(c*t)),<- cb,wr];exact aB _ (aj (aB _ (by lia)) hc)
def oF (mv pt:LR9) (a c:Nat):Prop:=∃M V:Nat,0 < M/\M<=2^a/\(mv.length+1)*V<=2^c/\GF M V mv/\GF M V pt/\a<=400/\c<=40/\mv.length*(mv.length*(a+c)+4)<=1740/\mv.length*(mv.length*(mv.length*(a+c)+4)+a+c+4)<=8900
theorem oF.swf {a c:Nat} (F:oF mv pt a c) (D:mv.length<=8) (wm:∀xs∈mv,xs.length=mv.length) (wp:∀xs∈pt,xs.length=mv.length) (ht:t<=mv.length):BA (kry mv pt t) mv.length (mv.length*(a+c)):=by
 obtain ⟨M,V,M0,Ma,hV,fm,fp,a3,c3,e14,e89⟩:=F;have f:=JV rfl wm wp hV fm fp t;have h1:mv.length*(a+c)<=8*440:=aP D (by lia);have hM:M^t<=2^(a*mv.length):=aj (Ar Ma _) (by rw[<- Nat.pow_mul];exact ar (by decide) (cv _ ht));have h2:a*mv.length<=mv.length*(a+c):=by rw[cp];exact cv _ (by lia)
 have h3:mv.length=0\/mv.length*(a+c)<=1740:=by
  rcases pA mv.length with z | z
  ·exact .inl z
  ·right
   have:=dZ (mv.length*(a+c)+4) z
   lia
 have h4:mv.length*(a+c)<=1740:=by
  rcases h3 with z | z
  ·rw[z];lia
  ·exact z
 refine ⟨M^t,2^(mv.length*(a+c)),FV M0,aj hM (ar (by decide) (by lia)),cu,ao _,λxs hx x hx'=>Tp.of (f xs hx x hx') ?_,by lia,by lia,?_⟩
 ·refine aj (aP (ar (by decide) (cv c ht)) hM) ?_;rw[<- bI];refine ar (by decide) ?_;rw[cp c,cp a,<- fB,uF c];exact ao _
 ·exact aj (aB _ (El _ _)) (by lia)
theorem oF.tp {a c:Nat} (F:oF mv pt a c) (D:mv.length<=8) (wm:∀xs∈mv,xs.length=mv.length) (wp:∀xs∈pt,xs.length=mv.length) (ht:t<=mv.length) (RR:bB (kry mv pt t) mv.length R ps):∃M,0 < M/\M<=2^(mv.length*(mv.length*(a+c)+4))/\∀xs∈R,∀x∈xs,Tp M (2^(mv.length*(mv.length*(a+c)+4))) x:=by
 obtain ⟨_,M,h0,h1,h2⟩:=Iv (fA rfl wp t) (F.swf D wm wp ht) RR;have le:2^(min (kry mv pt t).length mv.length*(mv.length*(a+c)+4))<=2^(mv.length*(mv.length*(a+c)+4)):=ar (by decide) (aB _ (El _ _));exact ⟨M,h0,aj h1 le,λxs hx x hx'=>(h2 xs hx x hx').mono le⟩
theorem oF.step {a c:Nat} (F:oF mv pt a c) (D:mv.length<=8) (wm:∀xs∈mv,xs.length=mv.length) (wp:∀xs∈pt,xs.length=mv.length) (ht:t<=mv.length) (RR:bB (kry mv pt t) mv.length R ps):BA (pt++R.map (oB mv)) mv.length (mv.length*(mv.length*(a+c)+4)+a+c):=by
 obtain ⟨N,N0,N1,tN⟩:=F.tp D wm wp ht RR;obtain ⟨M,V,M0,Ma,hV,fm,fp,a3,c3,e14,e89⟩:=F;generalize mv.length*(mv.length*(a+c)+4)=e at *
 have V1:V<=2^c:=aj (dZ _ (by lia)) hV;have eW:(2:Nat)^(e+a+c)=2^c*(2^a*2^e):=by rw[<- bI,<- bI];congr 1;lia
 refine ⟨N*M,2^(e+a+c),cD N0 M0,?_,cu,ao _,λxs hx x hx'=>?_,by lia,by lia,?_⟩
 ·exact aj (aP N1 Ma) (by rw[<- bI];exact ar (by decide) (by lia))
 ·rcases ax.mp hx with hx | hx
  ·refine Tp.of ((fp xs hx x hx').scaleL N) ?_;rw[eW,cp N];exact aP V1 (aP Ma N1)
  ·obtain ⟨y,hy,rfl⟩:=ay.mp hx;unfold oB at hx';obtain ⟨r,hr,rfl⟩:=ay.mp hx';have wr:=wm r hr;have wy:=RR.2.1 y hy;rw[jE (by lia),wr];have t1:∀j,Tp M (V*M) (r.getD j 0):=λj=>yX (λx hx=>Tp.of (fm r hr x hx) (ao _)) j
   have t2:∀j,Tp N (2^e) (y.getD j 0):=λj=>yX (tN y hy) j
   have:=Tp.sum (k:=mv.length) (M:=N*M) (W:=V*M*2^e) (f:=λj=>r.getD j 0*y.getD j 0) λj _=>by
    have:=(t1 j).mul (t2 j);rwa [cp M N] at this
   refine this.mono ?_;rw[eW,cb V,<- cb mv.length];exact aP (aj (aB _ (by lia)) hV) (aB _ Ma)
 ·exact aj (aB _ (El _ _)) (by rw[show e+a+c+4=e+a+c+4 from rfl];exact e89)
theorem oF.fit {a c:Nat} (F:oF mv pt a c) (D:mv.length<=8) (wm:∀xs∈mv,xs.length=mv.length) (wp:∀xs∈pt,xs.length=mv.length) (ht:t<=mv.length) (RR:bB (kry mv pt t) mv.length R ps):∀xs∈mv,∀r∈R,xA xs r:=λxs hx r hr=>by
 obtain ⟨N,N0,N1,tN⟩:=F.tp D wm wp ht RR;obtain ⟨M,V,M0,Ma,hV,fm,fp,a3,c3,e14,e89⟩:=F;have V1:V<=2^c:=aj (dZ _ (by lia)) hV;have p14:=ar (show 0 < 2 by decide) e14;exact ⟨400,40,1740,1740,⟨M,V,M0,aj Ma (ar (by decide) a3),aj V1 (ar (by decide) c3),fm xs hx⟩,⟨N,2^1740,N0,aj N1 p14,ao _,λx hx=>((tN r hr x hx).mono p14).fr N0⟩,by decide⟩
end
inductive xJ (K:FG9) (C:Addr) (vs:List V) (H:Hp) (Q:VK) (E9:XK):Prop
 | mk (x p:Addr) (H0 H1:Hp) (mv pt lk R:LR9):vs=[.ref x,.ref p]->p5 K H0 H C x mv pt lk->kC mv pt lk->bg K H1 H p R->R.length<=100->(∀r∈R,r.length=mv.length)->(∀xs∈mv,∀r∈R,xA xs r)->(∀r H',H r=none->aF H H'->bg K H H' r (R.map (oB mv))->Q (.ref r) H')->xJ K C vs H Q E9
structure wQ (mv pt:LR9) (Rs:List (LR9)):Prop where
 ne:Rs≠[]
 rr:∀t R,Rs[t]?=some R->∃ps,bB (kry mv pt t) mv.length R ps
 up:∀t R R',Rs[t]?=some R->Rs[t+1]?=some R'->R.length < R'.length
def GrL (K:FG9) (H0 H:Hp) (l:Addr) (Rs:List (LR9)):Prop:=∃us,H l=some (.lst us)/\Paired (λR v=>∃q,v=V.ref q/\H0 q=none/\q≠l/\bg K H0 H q R) Rs us
inductive xN (K:FG9) (C:Addr) (vs:List V) (H:Hp) (Q:VK) (E9:XK):Prop
 | mk (x:Addr) (a c st:Nat) (H0:Hp) (mv pt lk:LR9):vs=[.ref x,.int st]->st<=1000->p5 K H0 H C x mv pt lk->kC mv pt lk->oF mv pt a c->(∀r Rs H',H r=none->aF H H'->GrL K H H' r Rs->wQ mv pt Rs->Rs.length<=st+1->(∀R,Rs.getLast?=some R->∀s,(Rs.length - 1=st/\s=st\/Rs.length - 1 < st/\Rs.length - 1<=s)->∃ps,bB (kry mv pt s) mv.length R ps)->Q (.ref r) H')->xN K C vs H Q E9
inductive xH (K:FG9) (C:Addr) (vs:List V) (H:Hp) (Q:VK) (E9:XK):Prop
 | mk (x:Addr) (a c st:Nat) (H0:Hp) (mv pt lk:LR9):vs=[.ref x,.int st]->st<=1000->p5 K H0 H C x mv pt lk->kC mv pt lk->oF mv pt a c->(∀r R ps H',H r=none->aF H H'->bg K H H' r R->bB (kry mv pt st) mv.length R ps->Q (.ref r) H')->xH K C vs H Q E9
section
variable {K:FG9} {H0 H1 H H':Hp} {p l:Addr} {rows mv pt R R':LR9} {Rs:List (LR9)} {t:Nat}
theorem bg.weakN (h:bg K H0 H p rows) (hn:∀q,H0 q=none->H1 q=none):bg K H1 H p rows:=by obtain ⟨xs,g,r,n⟩:=h;exact ⟨xs,g,Paired.imp' (λ_ _ ⟨q,a,b,c⟩=>⟨q,a,hn q b,c⟩) r,n⟩
theorem bg.updL (h:bg K H0 H p rows) (hl:H l=some (.lst ys)) (nl:H0 l≠none) (pl:p≠l):bg K H0 (upd H l o) p rows:=by obtain ⟨xs,g,r,n⟩:=h;exact ⟨xs,by rw[a7 pl];exact g,Paired.imp' (λ_ _ z=>cA.updL z hl nl) r,n⟩
theorem BO:bB [] n [] []:=⟨rfl,(λ_ h=>by cases h),(λ_ _ _ h=>absurd h (eN _)),(λ_ h=>absurd h (eN _)),(λ_ h=>absurd h (eN _)),(λ_ h=>absurd h (eN _)),(λ_ h=>absurd h (eN _)),(λ_ h=>absurd h (eN _))⟩
theorem wQ.len (h:wQ mv pt Rs):∀(t:Nat) (R:LR9),Rs[t]?=some R->t<=R.length:=by
 intro t
 induction t with
 | zero=>intro R _;exact bo _
 | succ t ih =>
  intro R e;have ht:=(aA.mp e).1;have e0:=af (show t < Rs.length by lia);have:=ih _ e0;have:=h.up t _ R e0 e
  lia
theorem wQ.snoc (h:wQ mv pt (Rs++[R])) (h1:bB (kry mv pt (Rs.length+1)) mv.length R' ps') (h2:R.length < R'.length):wQ mv pt ((Rs++[R])++[R']):=by
 have l1:(Rs++[R]).length=Rs.length+1:=by rw[aw];rfl
 refine ⟨by simp,λt S e=>?_,λt S S' e e'=>?_⟩
 ·rcases bR t (Rs.length+1) with z | z
  ·rw[bZ (by lia)] at e;exact h.rr t S e
  ·have ht:=(aA.mp e).1;rw[aw,aS] at ht;have:t=Rs.length+1:=by lia
   subst this;rw[bu (by lia),l1,j4] at e;cases e;exact ⟨ps',h1⟩
 ·have ht:=(aA.mp e').1;rw[aw,aS] at ht;rw[bZ (by lia)] at e;rcases bR (t+1) (Rs.length+1) with z | z
  ·rw[bZ (by lia)] at e';exact h.up t S S' e e'
  ·have:t=Rs.length:=by lia
   subst this;rw[bu (by lia),l1,j4] at e';cases e';rw[bu (ao _),j4] at e;cases e;exact h2
end
def mG (k t i:Nat):Nat:=if i < k then i else if i=k then t else if i<=t then i - 1 else i
def AX (k t i:Nat):Nat:=if i < k then i else if i=t then k else if i < t then i+1 else i
section
variable {k t m i j:Nat}
theorem qA (h : k ≤ t) (ht : t < m) (hi : i < m) : mG k t i < m := by     unfold mG; split; · exact hi
                                                                          · split; · exact ht
                                                                            · split <;> lia
theorem K0 (h : k ≤ t) (ht : t < m) (hi : i < m) : AX k t i < m := by     unfold AX; split; · exact hi
                                                                          · split; · lia
                                                                            · split <;> lia
theorem KZ (h:k<=t):mG k t (AX k t i)=i:=by
 by_cases h1:i < k
 ·rw[show AX k t i=i by unfold AX;rw[if_pos h1]];unfold mG;rw[if_pos h1]
 ·by_cases h2:i=t
  ·rw[show AX k t i=k by unfold AX;rw[if_neg h1,if_pos h2]];unfold mG;rw[if_neg (by lia),if_pos rfl,h2]
  ·by_cases h3:i < t
   ·rw[show AX k t i=i+1 by unfold AX;rw[if_neg h1,if_neg h2,if_pos h3]];unfold mG;rw[if_neg (by lia),if_neg (by lia),if_pos (by lia)];lia
   ·rw[show AX k t i=i by unfold AX;rw[if_neg h1,if_neg h2,if_neg h3]];unfold mG;rw[if_neg h1,if_neg (by lia),if_neg (by lia)]
theorem Iw (h:k<=t):AX k t (mG k t i)=i:=by
 by_cases h1:i < k
 ·rw[show mG k t i=i by unfold mG;rw[if_pos h1]];unfold AX;rw[if_pos h1]
 ·by_cases h2:i=k
  ·rw[show mG k t i=t by unfold mG;rw[if_neg h1,if_pos h2]];unfold AX;rw[if_neg (by lia),if_pos rfl,h2]
  ·by_cases h3:i<=t
   ·rw[show mG k t i=i - 1 by unfold mG;rw[if_neg h1,if_neg h2,if_pos h3]];unfold AX;rw[if_neg (by lia),if_neg (by lia),if_pos (by lia)];lia
   ·rw[show mG k t i=i by unfold mG;rw[if_neg h1,if_neg h2,if_neg h3]];unfold AX;rw[if_neg h1,if_neg (by lia),if_neg (by lia)]
theorem nF (hi:i < k):mG k t i=i:=by unfold mG;rw[if_pos hi]
theorem qB (h:k<=t) (hi:k<=i):k<=mG k t i:=by
 unfold mG;rw[if_neg (by lia)]
 split
 ·exact h
 ·split <;> lia
variable {a l:Nat->Nat->Rat} {pm p:Nat->Nat} {d:Rat} {P:Nat}
theorem rM.rot (B:rM a m k pm p l d) (h:k<=t) (ht:t < m):rM a m k (λi=>pm (mG k t i)) p (λi=>l (mG k t i)) d where
 inj i j hi hj e:=by
  have:=B.inj _ _ (qA h ht hi) (qA h ht hj) e;rw[<- Iw (i:=i) h,this,Iw h]
 rng i hi:=B.rng _ (qA h ht hi)
 km:=B.km
 d0:=B.d0
 det:=by rw[B.det,ve (f:=pm) (g:=λi=>pm (mG k t i)) λj hj=>by rw[nF hj]]
 eqs i hi c:=by
  have e:=B.eqs (mG k t i) (qA h ht hi) c;have e1:bS k (λj=>a (pm (mG k t i)) (p j)*l (mG k t j) c)=bS k (λj=>a (pm (mG k t i)) (p j)*l j c):=bw λj hj=>by rw[nF hj]
  rw[e1];by_cases hk:i < k
  ·rw[nF hk] at e ⊢;exact e
  ·rw[if_neg hk];rw[if_neg (by have:=qB h (show k<=i by lia);lia)] at e;exact e
 unit i hi j hj:=by
  rw[B.unit _ (qA h ht hi) j hj];by_cases hk:i < k
  ·rw[nF hk]
  ·have:=qB h (show k<=i by lia);rw[if_neg (by lia),if_neg (by lia)]
theorem ij.rot (E:ij a m k P p l d) (h:k<=t) (ht:t < m):ij a m k P p (λi=>l (mG k t i)) d where
 km:=E.km
 d0:=E.d0
 unit i hi j hj:=by
  rw[E.unit _ (qA h ht hi) j hj];by_cases hk:i < k
  ·rw[nF hk]
  ·have:=qB h (show k<=i by lia);rw[if_neg (by lia),if_neg (by lia)]
 inc:=E.inc
 low:=E.low
 zero i h1 h2 c hc:=E.zero _ (qB h h1) (qA h ht h2) c hc
 lead j hj c hc:=by rw[nF hj];exact E.lead j hj c hc
 there i hi:=dP.trans (λs hs=>dP.congr (λc=>by rw[KZ h]) (dP.row (a:=λi=>l (mG k t i)) (i:=AX k t s) (K0 h ht hs))) (E.there i hi)
 back i hi:=E.back _ (qA h ht hi)
end
section
variable {rows fs ls:LR9} {n P w a:Nat} {ps:List Nat}
theorem Gh:gO k k i=i:=by unfold gO;split <;> (try split) <;> lia
theorem wO.rot (h:wO rows n P (fs++ls) ps) (hf:fs.length=ps.length) (ht:t < ls.length):wO rows n P (fs++ls.getD t [] :: ls.eraseIdx t) ps:=by
 obtain ⟨len,wide,pm,l,d,B,E,v⟩:=h;rw[aw] at len;have h1:ps.length<=ps.length+t:=by lia
 have h2:ps.length+t < rows.length:=by lia
 have ef:∀i,i < rows.length->∀c,b7 (fs++ls.getD t [] :: ls.eraseIdx t) i c=b7 (fs++ls) (mG ps.length (ps.length+t) i) c:=λi hi c=>by
  by_cases z:i < ps.length
  ·rw[nF z,Bt (by lia),Bt (by lia)]
  ·obtain ⟨j,rfl⟩:∃j,i=fs.length+j:=⟨i - fs.length,by lia⟩;rw[rh];cases j with
   | zero =>
    rw[show mG ps.length (ps.length+t) (fs.length+0)=fs.length+t by unfold mG;rw[if_neg (by lia),if_pos (by lia)];lia,rh];rfl
   | succ j =>
    by_cases y:j < t
    ·rw[show mG ps.length (ps.length+t) (fs.length+(j+1))=fs.length+j by unfold mG;rw[if_neg (by lia),if_neg (by lia),if_pos (by lia)];lia,rh];show b7 (ls.eraseIdx t) j c=_
     unfold b7;rw[aa (l:=ls.eraseIdx t),List.getElem?_eraseIdx_of_lt y,<- aa]
    ·rw[show mG ps.length (ps.length+t) (fs.length+(j+1))=fs.length+(j+1) by unfold mG;rw[if_neg (by lia),if_neg (by lia),if_neg (by lia)],rh];show b7 (ls.eraseIdx t) j c=_
     unfold b7;rw[aa (l:=ls.eraseIdx t),List.getElem?_eraseIdx_of_ge (by lia),<- aa]
 refine ⟨?_,λxs hx=>?_,λi=>pm (mG ps.length (ps.length+t) i),λi=>l (mG ps.length (ps.length+t) i),d,B.rot h1 h2,E.rot h1 h2,λi hi c=>?_⟩
 ·rw[aw,bq,IX ht];lia
 ·rcases ax.mp hx with hx | hx
  ·exact wide xs (ax.mpr (.inl hx))
  ·rcases aE.mp hx with rfl | hx
   ·exact wide _ (ax.mpr (.inr (getD_in ht)))
   ·exact wide xs (ax.mpr (.inr (Ku hx)))
 ·rw[ef i hi c,v _ (qA h1 h2 hi) c];by_cases z:i < ps.length
  ·dsimp only
   rw[nF z]
  ·rw[if_neg z,if_neg (by have:=qB h1 (show ps.length<=i by lia);lia)]
def kJ (P:Nat) (h:List Rat):List Rat:=h.map λy=>1 / h.getD P 0*y
def vK (P:Nat) (u r:List Rat):List Rat:=List.zipWith (λx y=>x - y) r (u.map λy=>r.getD P 0*y)
theorem wO.lean (h:wO rows n P (fs++ls) ps) (hf:fs.length=ps.length) (ht:t < ls.length) (hP:P < n) (hne:(ls.getD t []).getD P 0≠0):wO rows n (P+1) ((fs.map (vK P (kJ P (ls.getD t [])) )++[kJ P (ls.getD t [])])++(ls.eraseIdx t).map (vK P (kJ P (ls.getD t [])))) (ps++[P]):=by
 have R:=h.rot hf ht;have len:=R.len;have wide:=R.wide;generalize ls.getD t []=hd at *
 generalize ls.eraseIdx t=l2 at *
 rw[aw,bq] at len;have whd:hd.length=n:=wide _ (ax.mpr (.inr (.head _)));have wu:(kJ P hd).length=n:=by unfold kJ;rw[ag];exact whd
 have ek:b7 (fs++hd :: l2) ps.length=λc=>hd.getD c 0:=by
  have:=rh (X:=fs) (Y:=hd :: l2) (i:=0);rw[show fs.length+0=ps.length by lia] at this;rw[this];rfl
 have wl:∀r,r.length=n->(vK P (kJ P hd) r).length=n:=λr hr=>by unfold vK;rw[cR,ag,wu,hr];lia
 have vl:∀r,r.length=n->∀c,(vK P (kJ P hd) r).getD c 0=r.getD c 0 - r.getD P 0*(1 / hd.getD P 0*hd.getD c 0):=λr hr c=>by
  unfold vK;rw[Ka (by rw[ag,wu,hr]),Fu];unfold kJ;rw[Fu]
 refine R.step (t:=ps.length) (ao _) (by rw[aw,bq];lia) (by rw[ek];exact hne) ?_ ?_ λi hi c=>?_
 ·rw[aw,aw,ag,ag,aS];lia
 ·intro xs hx;rcases ax.mp hx with hx | hx
  ·rcases ax.mp hx with hx | hx
   ·obtain ⟨r,hr,rfl⟩:=ay.mp hx;exact wl r (wide r (ax.mpr (.inl hr)))
   ·rw[b8.mp hx];exact wu
  ·obtain ⟨r,hr,rfl⟩:=ay.mp hx;exact wl r (wide r (ax.mpr (.inr (.tail _ hr))))
 ·rw[Gh,ek]
  dsimp only
  have lf:(fs.map (vK P (kJ P hd))).length=ps.length:=by rw[ag];exact hf
  have key:∀{X:LR9} {s:Nat} (hs:s < X.length) (_:∀r∈X,r.length=n),b7 (X.map (vK P (kJ P hd))) s c=b7 X s c - b7 X s P*(1 / hd.getD P 0*hd.getD c 0):=λ{X s} hs hX=>by
   unfold b7;have e1:(X.map (vK P (kJ P hd))).getD s []=vK P (kJ P hd) X[s]:=by rw[aa,aD,af hs];rfl
   have e2:X.getD s []=X[s]:=by rw[aa,af hs];rfl
   rw[e1,e2];exact vl _ (hX _ (aZ hs)) c
  rcases eP i ps.length with z | z | z
  ·rw[if_neg (by lia),bO,Bt (by lia),Bt (by lia),key (by lia) λr hr=>wide r (ax.mpr (.inl hr))]
  ·rw[if_pos z,bO,show i=(fs.map (vK P (kJ P hd))).length+0 by lia,rh];show (kJ P hd).getD c 0=_
   unfold kJ;rw[Fu]
  ·rw[if_neg (by lia)];obtain ⟨j,rfl⟩:∃j,i=ps.length+1+j:=⟨i - ps.length - 1,by lia⟩
   have e1:b7 (fs++hd :: l2) (ps.length+1+j)=b7 l2 j:=by
    have:=rh (X:=fs) (Y:=hd :: l2) (i:=j+1);rw[show fs.length+(j+1)=ps.length+1+j by lia] at this;rw[this];rfl
   have e2:b7 ((fs.map (vK P (kJ P hd))++[kJ P hd])++l2.map (vK P (kJ P hd))) (ps.length+1+j)=b7 (l2.map (vK P (kJ P hd))) j:=by
    have:=rh (X:=fs.map (vK P (kJ P hd))++[kJ P hd]) (Y:=l2.map (vK P (kJ P hd))) (i:=j);rw[aw,lf,aS] at this;exact this
   rw[e1,e2,key (by lia) λr hr=>wide r (ax.mpr (.inr (.tail _ hr)))]
end
theorem qF {α β:Type} {F:α->β->Prop}:∀{l1:List α} {l2:List β} (_:Paired F l1 l2) (i:Nat),Paired F (l1.eraseIdx i) (l2.eraseIdx i)
 | _,_,.nil,_=>.nil
 | _,_,.cons _ r,0=>r
 | _,_,.cons h r,i+1=>.cons h (qF r i)
theorem JQ:c∈A6 xs i↔c < i/\xs.getD c 0≠0:=by
 unfold A6;rw[jb,pB];simp
theorem bg.toE {K:FG9} (h:bg K H0 H l rows):∃us,H l=some (.lst us)/\Paired (kD K (λq=>H0 q=none/\q≠l) H) rows us:=by
 obtain ⟨us,g,pr,nn⟩:=h;exact ⟨us,g,nJ (λxs v hv ⟨q,e,a,b⟩=>⟨q,e,⟨a,λz=>nn (by rw[<- z,<- e];exact hv)⟩,b⟩) pr⟩
theorem xX {α:Type} {v:α}:∀{l:List α},l.Nodup->v∉l->∀j,(l.set j v).Nodup
 | [],_,_,_=>j5
 | a :: l,h,hn,0=>by
  rw[dk] at h;rw[List.set_cons_zero,dk];exact ⟨λz=>hn (.tail _ z),h.2⟩
 | a :: l,h,hn,j+1=>by
  rw[dk] at h;rw[List.set_cons_succ,dk];refine ⟨λz=>?_,xX h.2 (λz=>hn (.tail _ z)) j⟩;rcases bY z with z | z
  ·exact h.1 z
  ·exact hn (by rw[z];exact .head _)
structure gM (K:FG9) (A:Addr->Prop) (H:Hp) (n:Nat) (C:V->Rat->Prop) (m p l b q0:Addr) (us ws vs:List V):Prop where
 bag:fR H b
 inn:Inner H b q0
 gm:H m=some (.lst us)
 gp:H p=some (.lst ws)
 gl:H l=some (.lst vs)
 lm:us.length=n
 row:∀x∈us++vs++ws,dX K A H n (C x) x
 nd:(us++vs++ws).Nodup
section
variable {K:FG9} {A:Addr->Prop} {H H':Hp} {n:Nat} {C C':V->Rat->Prop} {m p l b q0 q:Addr} {us ws vs zs:List V} {y:Rat} {v:V}
theorem gM.same (h:gM K A H n C m p l b q0 us ws vs) (e:aF H H'):gM K A H' n C m p l b q0 us ws vs :=
 ⟨h.bag.same e,(e.upto (p:=b)).2 _ h.inn,e _ _ h.gm,e _ _ h.gp,e _ _ h.gl,h.lm,λx hx=>(h.row x hx).same e,h.nd⟩
theorem gM.upto (h:gM K A H n C m p l b q0 us ws vs) (M:Bx A m p l b q0) (u:cF b H H') (B':fR H' b):gM K A H' n C m p l b q0 us ws vs :=
 ⟨B',u.2 _ h.inn,u.other M.mb h.gm,u.other M.pb h.gp,u.other M.lb h.gl,h.lm,λx hx=>(h.row x hx).upto u h.bag M.ab,h.nd⟩
theorem gM.weak (h:gM K A H n C m p l b q0 us ws vs) (w:∀x∈us++vs++ws,∀y,C x y->C' x y):gM K A H n C' m p l b q0 us ws vs :=
 ⟨h.bag,h.inn,h.gm,h.gp,h.gl,h.lm,λx hx=>(h.row x hx).weak (λ_ z=>z) (w x hx),h.nd⟩
theorem gM.put (h:gM K A H n C m p l b q0 us ws vs) (M:Bx A m p l b q0) (aq:A q) (hq:H q=some (.lst zs)) (hv:bX K H y v) (hc:C (.ref q) y) (j:Nat):gM K A (upd H q (.lst (zs.set j v))) n C m p l b q0 us ws vs:=by
 have ne:∀{z},¬A z->z≠q:=λh e=>h (by rw[e];exact aq)
 refine ⟨h.bag.upd h.inn (ne M.ab).symm (ne M.aq).symm,h.inn.upd (ne M.ab).symm,by rw[a7 (ne M.am)];exact h.gm,by rw[a7 (ne M.ap)];exact h.gp,by rw[a7 (ne M.al)];exact h.gl,h.lm,λx hx=>?_,h.nd⟩;by_cases e:x=.ref q
 ·subst e;exact (h.row _ hx).put hq hv hc j
 ·obtain ⟨q1,qs,rfl,a1,r1,l1,c1⟩:=h.row x hx;exact ⟨q1,qs,rfl,a1,r1.updL hq (λz=>e (by rw[z])),l1,c1⟩
theorem gM.set (h:gM K A H n C m p l b q0 us ws vs) (M:Bx A m p l b q0) (hx:dX K A H n (C v) v) (hn:v∉us++vs++ws) (j:Nat):gM K A (upd H m (.lst (us.set j v))) n C m p l b q0 (us.set j v) ws vs:=by
 have mem:∀x∈us.set j v++vs++ws,x=v\/x∈us++vs++ws:=λx hx=>by
  rcases ax.mp hx with hx | hx
  ·rcases ax.mp hx with hx | hx
   ·rcases bY hx with hx | hx
    ·exact .inr (by simp [hx])
    ·exact .inl hx
   ·exact .inr (by simp [hx])
  ·exact .inr (by simp [hx])
 refine ⟨h.bag.upd h.inn M.mb M.mq,h.inn.upd M.mb,aH,by rw[a7 M.mp.symm];exact h.gp,by rw[a7 M.ml.symm];exact h.gl,by rw[dR];exact h.lm,λx hx'=>?_,?_⟩
 ·rcases mem x hx' with rfl | hx'
  ·exact hx.other h.gm M.am
  ·exact (h.row x hx').other h.gm M.am
 ·have nd:=h.nd;rw[bO] at nd hn ⊢;obtain ⟨n1,n2,n3⟩:=cV.mp nd;refine cV.mpr ⟨?_,n2,λa ha c hc=>?_⟩
  ·rcases bR j us.length with z | z
   ·exact xX n1 (λz'=>hn (ax.mpr (.inl z'))) j
   ·rw[List.set_eq_of_length_le z];exact n1
  ·rcases bY ha with ha | rfl
   ·exact n3 a ha c hc
   ·exact λz=>hn (ax.mpr (.inr (by rw[z];exact hc)))
end
theorem Dj (h0:0 < M) (h1:M<=2^800) (hW:W<=2^140) (h:Fr M W x):oa x :=
 Cm h0 (aj h1 (ar (by decide) (by decide))) (aj hW (ar (by decide) (by decide))) h
theorem Hv {t V c:Nat} (ht:t<=3) (hV:V<=2^20) (hc:c<=9):c*(9^t*V)<=2^140:=by
 have h1:9^t<=9^3:=ar (by decide) ht;have h2:c*(9^t*V)<=9*(9^3*2^20):=aP hc (aP h1 hV);exact aj h2 (aj (show 9*(9^3*2^20)<=2^40 by decide) (ar (by decide) (by decide)))
theorem lY {α:Type} {l:List α} {v:α} (h:l.Nodup) (hn:v∉l):(l++[v]).Nodup:=cV.mpr ⟨h,by simp,λa ha c hc=>by rw[b8.mp hc];exact λz=>hn (by rw[<- z];exact ha)⟩
section
variable {K:FG9} {a:Addr} {xs:List V} {g:TG} {tf:TT} {te:TE} {Q:VK} {σ₀:St} {H:Hp} {α β:Type}
theorem yz (G:Hp->β->V->Prop) (C:β->Prop) (hB:fR H b) (hl:n<=1000) (hG:∀{H' H'' c x},G H' c x->cF b H' H''->fR H' b->G H'' c x)
  (hA:∀{H' c x},G H' c x->∃q,x=V.ref q/\H' q≠none)
  (hs:∀(i:Nat) H' NY NN,i < n->cF b H H'->fR H' b->(∀y c H2,cF b H' H2->fR H2 b->C c->G H2 c y->(∃q,y=V.ref q/\H' q=none)->NY y H2)->mU σ₀ g tf te (.int i) H' NY NN)
  (hd:∀ys cs H' p,H p=none->cF b H H'->fR H' b->H' p=some (.lst ys)->cs.length=n->ys.Nodup->(∀c∈cs,C c)->Paired (G H') cs ys->(∃H2,H2 p=none/\Paired (G H2) cs ys)->Q (.ref p) H'):oh (BC 0 n) σ₀ g tf te Q H:=by
 refine ie (λi ys H'=>cF b H H'/\fR H' b/\∃cs,cs.length=i/\ys.Nodup/\(∀c∈cs,C c)/\Paired (G H') cs ys) (aL (bc (by lia))) ⟨(aF.refl _).upto,hB,[],rfl,j5,(λ_ z=>nomatch z),.nil⟩ ?_ ?_
 ·rintro i ys H' hi hlen ⟨u,B,cs,lc,nd,hc,pr⟩;rw[j7];refine hs i H' _ _ hi u B λy c H2 u2 B2 cc gy ⟨q,ey,nq⟩=>⟨u.trans u2,B2,cs++[c],by simp [lc],lY nd (λz=>by obtain ⟨c',_,gc⟩:=cC pr z;obtain ⟨q',e',h'⟩:=hA gc;rw[ey] at e';cases e';exact h' nq),Ai hc cc,bP (Paired.imp' (λ_ _ z=>hG z u2 B) pr) (.cons gy .nil)⟩
 ·rintro ys H' hy ⟨u,B,cs,lc,nd,hc,pr⟩ p hp;have s:aF H' (upd H' p (.lst ys)):=aF.new hp;exact hd ys cs _ p (u.none B hp) (u.same s) (B.same s) aH lc nd hc (Paired.imp' (λ_ _ z=>hG z s.upto B) pr) ⟨H',hp,pr⟩
end
structure Cv (K:FG9) (A:Addr->Prop) (n:Nat) (C:Rat->Prop) (m p l b q0:Addr) (us ws vs:List V) (H0 H:Hp):Prop where
 mix:gM K A H n (λ_=>C) m p l b q0 us ws vs
 gp:H p=some (.lst ws)
 gl:H l=some (.lst vs)
 kp:fk A b m H0 H
section
variable {K:FG9} {A:Addr->Prop} {n:Nat} {C:Rat->Prop} {m p l b q0 q:Addr} {us ws vs:List V} {H0 H H':Hp} {y:Rat} {v:V}
theorem Cv.same (h:Cv K A n C m p l b q0 us ws vs H0 H) (e:aF H H'):Cv K A n C m p l b q0 us ws vs H0 H':=⟨h.mix.same e,e _ _ h.gp,e _ _ h.gl,h.kp.same e⟩
theorem Cv.upto (h:Cv K A n C m p l b q0 us ws vs H0 H) (M:Bx A m p l b q0) (u:cF b H H') (B:fR H' b):Cv K A n C m p l b q0 us ws vs H0 H':=⟨h.mix.upto M u B,u.other M.pb h.gp,u.other M.lb h.gl,h.kp.upto u⟩
theorem Cv.row (h:Cv K A n C m p l b q0 us ws vs H0 H) (hx:x∈ws\/x∈vs):dX K A H n C x:=h.mix.row x (by rcases hx with hx | hx <;> simp [hx])
theorem Cv.put (h:Cv K A n C m p l b q0 us ws vs H0 H) (M:Bx A m p l b q0) (hx:V.ref q∈ws\/V.ref q∈vs) (hv:bX K H y v) (hc:C y) (j:Nat):∃zs,H q=some (.lst zs)/\zs.length=n/\Cv K A n C m p l b q0 us ws vs H0 (upd H q (.lst (zs.set j v))):=by
 obtain ⟨q',zs,qs,e,a,g,lz,_⟩:=(h.row hx).at;cases e;have ne:∀{z},¬A z->z≠q:=λh e=>h (by rw[e];exact a)
 exact ⟨zs,g,lz,h.mix.put M a g hv hc j,by rw[a7 (ne M.ap)];exact h.gp,by rw[a7 (ne M.al)];exact h.gl,h.kp.upd (.inl a)⟩
end
inductive AI (K:FG9) (vs:List V) (H:Hp) (Q:VK) (E9:XK):Prop
 | mk (b:Addr) (n w:Nat) (way first:Int):vs=[.ref b,.int n,.int way,.int first,.int w]->fR H b->n<=8->1<=w->w<=1000000->(∀r us H',H r=none->H' r=some (.lst us)->us.length=n->us.Nodup->(∀x∈us,dX K (λq=>H q=none/\q≠r) H' n (Dr (max w 6)) x)->fR H' b->cF b H H'->Q (.ref r) H')->AI K vs H Q E9
def PtF (n i o w c:Nat) (mv pt lk:LR9):Prop:=∃M V1:Nat,0 < M/\GF M V1 mv/\GF M V1 pt/\GF M V1 lk/\((w<=9/\M=2520/\V1=9^3*9)\/(9 < w/\M<=2^(c*((n+i+o)*n))/\V1=9^3*2^c))
inductive AJ (K:FG9) (vs:List V) (H:Hp) (Q:VK) (E9:XK):Prop
 | mk (b:Addr) (n:Nat):vs=[.ref b,.int n]->fR H b->1<=n->n<=8->(∀r mv pt lk H',fv K H H' r mv pt lk->mv.length=n->pt.length=1->lk.length=1->kC mv pt lk->GF 1 1 mv->GF 1 1 pt->GF 1 1 lk->fR H' b->cF b H H'->Q (.ref r) H')->AJ K vs H Q E9
theorem uy (M0:0 < M) (hM:M<=2^a) (hn:mv.length<=n0) (hV:(n0+1)*V1<=2^c) (fm:GF M V1 mv) (fp:GF M V1 pt) (h4:a<=400/\c<=40/\n0*(n0*(a+c)+4)<=1740/\n0*(n0*(n0*(a+c)+4)+a+c+4)<=8900):oF mv pt a c:=by
 obtain ⟨h1,h2,h3,h5⟩:=h4;have e1:mv.length*(a+c)<=n0*(a+c):=aB _ hn;have e2:mv.length*(mv.length*(a+c)+4)<=n0*(n0*(a+c)+4):=aP hn (by lia);have e3:mv.length*(mv.length*(mv.length*(a+c)+4)+a+c+4)<=n0*(n0*(n0*(a+c)+4)+a+c+4):=aP hn (by lia);exact ⟨M,V1,M0,hM,aj (aB _ (by lia)) hV,fm,fp,h1,h2,by lia,by lia⟩
def Gu (K:FG9):Sp:=λvs H Q _=>∃b:Addr,vs=[.ref b]/\fR H b /\
 ∀r mv pt lk H',fv K H H' r mv pt lk->6<=mv.length->kC mv pt lk->GF 1 (9^3) mv->GF 1 (9^3) pt->GF 1 (9^3) lk->fR H' b->cF b H H'->Q (.ref r) H'
theorem Bf (lm:mv.length=n) (wm:∀xs∈mv,xs.length=n) (wp:∀xs∈pt,xs.length=n) (RR:bB (kry mv pt t) n R ps) (RR':bB (kry mv pt (t+1)) n R' ps'):bB (pt++R.map (oB mv)) n R' ps':=by
 have wk:=fA (mv:=mv) lm wp t;refine ⟨RR'.1,RR'.2.1,RR'.2.2.other ?_ ?_⟩
 ·refine qj (λi hi=>mX hi) λi hi=>kF ?_
  rw[ag] at hi;have:=RR.2.2.span i hi;rw[<- RR.1] at this;exact uM lm wm wk RR.2.1 hi this
 ·refine qj (λi hi=>mX hi) λi hi=>kF ?_
  rw[ag] at hi;exact uM lm wm RR.2.1 wk hi (RR.2.2.back i (by rw[<- RR.1];exact hi))
section
variable {rows fs ls:LR9} {n r M W Wv Wb k P:Nat} {Pm Y Z B E a:Nat->Nat->Rat} {d:Rat} {ps:List Nat} {rs:LR9}
def LV (rows:LR9) (n S:Nat):Prop:=2*S<=3990/\∃J:Nat->LR9->List Nat->Prop,J 0 rows []/\(∀P rs ps,J P rs ps->(∀i,ps.length<=i->i < rs.length->b7 rs i P=0)->J (P+1) rs ps) /\
 (∀P fs ls ps t,J P (fs++ls) ps->fs.length=ps.length->t < ls.length->P < n->(ls.getD t []).getD P 0≠0->J (P+1) ((fs.map (vK P (kJ P (ls.getD t [])) )++[kJ P (ls.getD t [])])++(ls.eraseIdx t).map (vK P (kJ P (ls.getD t [])))) (ps++[P])) /\
 (∀P rs ps,J P rs ps->wO rows n P rs ps)/\∀P rs ps,J P rs ps->P<=n->∀i,i < rows.length->∃D:Nat,0 < D/\D<=2^S/\∀c,Tp D (2^S) (b7 rs i c)
theorem IU.lws {w a:Nat} (F:IU rows n w a) (hw:∀xs∈rows,xs.length=n):LV rows n (min rows.length n*(w+4)+a):=by
 obtain ⟨_,_,_,_,_,_,_,_,e⟩:=id F;refine ⟨e,wO rows n,wO.start hw,λ_ _ _ h z=>h.skip z,λ_ _ _ _ _ h hf ht hP hne=>h.lean hf ht hP hne,λ_ _ _ h=>h,λP rs ps h hP i hi=>?_⟩;obtain ⟨D,D0,D1,D2⟩:=h.sz F hP hi;exact ⟨D,D0,D1,λc=>(D2 c).mono (ar (by decide) (by lia))⟩
end
section
variable {rows R R1 R2 mv pt:LR9} {n r M V1 W W' Wv Wb k P:Nat} {Pm Y Z B E a:Nat->Nat->Rat} {d:Rat} {ps ps1 ps2:List Nat} {rs:LR9}
theorem xE {f:Nat->Rat} {a:Nat}:∀{b:Nat},bS (a+b) f=bS a f+bS b λt=>f (a+t)
 | 0=>by show bS a f=bS a f+0;grind
 | b+1=>by
  show bS (a+b) f+f (a+b)=_+(bS b _+f (a+b))
  rw[xE];grind
end
section
variable {rows R R1 R2 mv pt:LR9} {n t t2 a c:Nat} {ps ps1 ps2:List Nat}
theorem GA (RR:bB rows n R ps):bB R n R ps:=⟨RR.1,RR.2.1,RR.2.2.other (λi hi=>by rw[RR.1];exact RR.2.2.span i hi) (λi hi=>RR.2.2.back i (by rw[<- RR.1];exact hi))⟩
end
inductive uQ (K:FG9) (vs:List V) (H:Hp) (Q:VK) (E9:XK):Prop
 | mk (p:Addr) (n S:Nat) (H0:Hp) (rows:LR9):vs=[.ref p,.int n]->bg K H0 H p rows->rows.length<=100->n<=100->(∀xs∈rows,xs.length=n)->LV rows n S->(∀r R ps H',H r=none->aF H H'->bg K H H' r R->bB rows n R ps->ps.length<=rows.length->Q (.ref r) H')->uQ K vs H Q E9
section
variable {K:FG9} {a:Addr} {xs:List V} {g:TG} {tf:TT} {te:TE} {Q:VK} {σ₀:St} {H:Hp} {α β:Type}
theorem yw {F:Hp->α->V->Prop} (G:Hp->β->V->Prop) (f:α->β) (hx:H a=some (.lst xs)) (pf:Paired (F H) as xs) (hl:as.length<=1000)
  (hF:∀{H H' c x},F H c x->aF H H'->F H' c x) (hG:∀{H H' c x},G H c x->aF H H'->G H' c x) (hA:∀{H' c x},G H' c x->∃q,x=V.ref q/\H' q≠none)
  (hs:∀(i:Nat) c x H' NY NN,as[i]?=some c->aF H H'->F H' c x->(∀y H2,aF H' H2->G H2 (f c) y->(∃q,y=V.ref q/\H' q=none)->NY y H2)->mU σ₀ g tf te x H' NY NN)
  (hd:∀ys H' p,H p=none->aF H H'->H' p=some (.lst ys)->ys.Nodup->(∀y∈ys,∃q,y=V.ref q/\H q=none/\q≠p)->Paired (G H') (as.map f) ys->Q (.ref p) H'):oh (Ie K a) σ₀ g tf te Q H:=by
 have lx:=pf.length;refine cW (K:=K) (xs:=xs) (λi ys H'=>aF H H'/\ys.Nodup/\(∀y∈ys,∃q,y=V.ref q/\H q=none)/\Paired (G H') ((as.take i).map f) ys) (aL (bc (by lia))) ⟨aF.refl _,j5,(λ_ z=>nomatch z),.nil⟩ (λi ys H' _ ⟨s,_⟩=>bD.of (s _ _ hx)) ?_ ?_
 ·rintro i x ys H' hx' hlen ⟨s,nd,hn,pr⟩;obtain ⟨c,ec,hc⟩:=cw pf hx';refine hs i c x H' _ _ ec s (hF hc s) λy H2 s2 gy ⟨q,ey,nq⟩=>⟨s.trans s2,lY nd (λz=>?_),Ai hn ⟨q,ey,s.none nq⟩,?_⟩
  ·obtain ⟨c',_,gc⟩:=cC pr z;obtain ⟨q',e',h'⟩:=hA gc;rw[ey] at e';cases e';exact h' nq
  ·rw[take_snoc ec,bH];exact bP (Paired.imp' (λ_ _ z=>hG z s2) pr) (.cons gy .nil)
 ·rintro ys H' hy ⟨s,nd,hn,pr⟩ p hp;rw[aG (by lia)] at pr;refine hd ys _ p (s.none hp) (s.trans (aF.new hp)) aH nd (λy hy=>?_) (Paired.imp' (λ_ _ z=>hG z (aF.new hp)) pr);obtain ⟨q,e,nq⟩:=hn y hy;refine ⟨q,e,nq,λz=>?_⟩;obtain ⟨c',_,gc⟩:=cC pr hy;obtain ⟨q',e',h'⟩:=hA gc;rw[e] at e';cases e';exact h' (by rw[z];exact hp)
end
structure LS (K:FG9) (H0 H:Hp) (n:Nat) (fd:Addr) (L:List (Addr×List V)):Prop where
 gf:H fd=some (.lst (L.map λe=>V.ref e.1))
 nf:H0 fd=none
 ls:∀e∈L,H0 e.1=none/\e.1≠fd/\H e.1=some (.lst e.2)
 nd:(L.map λe=>e.1).Nodup
 rows:∀e∈L,∀x∈e.2,dX K (λq=>(H0 q=none/\q≠fd)/\q∉L.map λe=>e.1) H n (Fr 1 1) x
 rd:(L.flatMap λe=>e.2).Nodup
section
variable {K:FG9} {H0 H H1:Hp} {n:Nat} {fd q:Addr} {L:List (Addr×List V)} {us:List V}
theorem LS.snoc (h:LS K H0 H n fd L) (s0:aF H0 H) (s:aF H H1) (hq:H q=none) (gq:H1 q=some (.lst us)) (nd:us.Nodup) (hr:∀x∈us,dX K (λz=>H z=none/\z≠q) H1 n (Fr 1 1) x):LS K H0 (upd H1 fd (.lst ((L.map λe=>V.ref e.1)++[.ref q]))) n fd (L++[(q,us)]):=by
 have qf:q≠fd:=λz=>by rw[z,h.gf] at hq;cases hq
 have old:∀{z},z∈(L.map λe=>e.1)->H z≠none:=λhz=>by
  obtain ⟨e,he,rfl⟩:=ay.mp hz;rw[(h.ls e he).2.2];exact λz=>nomatch z
 have g1:=s _ _ h.gf;refine ⟨by rw[aH,bH];rfl,h.nf,λe he=>?_,?_,λe he x hx=>?_,?_⟩
 ·rcases ax.mp he with he | he
  ·obtain ⟨a,b,c⟩:=h.ls e he;exact ⟨a,b,by rw[a7 b];exact s _ _ c⟩
  ·rw[b8.mp he];exact ⟨s0.none hq,qf,by rw[a7 qf];exact gq⟩
 ·rw[bH];exact lY h.nd λz=>old z hq
 ·have key:dX K (λz=>(H0 z=none/\z≠fd)/\z∉(L++[(q,us)]).map λe=>e.1) H1 n (Fr 1 1) x:=by
   rcases ax.mp he with he | he
   ·obtain ⟨z,qs,e1,⟨e2,e3⟩,e4,e5⟩:=h.rows e he x hx;refine ⟨z,qs,e1,⟨e2,λhz=>?_⟩,e4.same s,e5⟩;rw[bH] at hz;rcases ax.mp hz with hz | hz
    ·exact e3 hz
    ·have hz:z=q:=b8.mp hz;obtain ⟨_,gg,_⟩:=e4;rw[hz,hq] at gg;cases gg
   ·rw[b8.mp he] at hx;refine (hr x hx).weak (λz hz=>⟨⟨s0.none hz.1,λy=>by rw[y] at hz;rw[h.gf] at hz;exact absurd hz.1 (λw=>nomatch w)⟩,λy=>?_⟩) (λ_ w=>w);rw[bH] at y;rcases ax.mp y with y | y
    ·exact old y hz.1
    ·exact hz.2 (b8.mp y)
  exact key.other g1 (λz=>z.1.2 rfl)
 ·rw[List.flatMap_append];refine cV.mpr ⟨h.rd,by simpa using nd,λx hx y hy z=>?_⟩;obtain ⟨e,he,hx⟩:=List.mem_flatMap.mp hx;obtain ⟨w,qs,e1,_,⟨_,gg,_⟩,_⟩:=h.rows e he x hx;obtain ⟨w',_,e1',⟨hw,_⟩,_⟩:=hr y (by simpa using hy);rw[<- z,e1] at e1';cases e1';rw[hw] at gg;cases gg
end
def Gd (mv pt:LR9) (i:Nat) (R:LR9) (ps:List Nat):Prop:=bB (kry mv pt i) mv.length R ps/\∃t,t<=ps.length/\t<=i/\bB (kry mv pt t) mv.length R ps/\(t=i\/∀s,bB (kry mv pt (t+s)) mv.length R ps)
section
variable {mv pt R R':LR9} {i:Nat} {ps ps':List Nat}
theorem Gd.start:Gd mv pt 0 [] []:=⟨BO,0,ao _,ao _,BO,.inl rfl⟩
theorem EJ (wm:∀xs∈mv,xs.length=mv.length) (wp:∀xs∈pt,xs.length=mv.length) (h:bB (kry mv pt i) mv.length R ps) (h':bB (kry mv pt (i+1)) mv.length R' ps') (e:ps'.length=ps.length):∀s,bB (kry mv pt (i+s)) mv.length R ps:=yd rfl wm wp h (Bf rfl wm wp h h') e
theorem Gd.step (wm:∀xs∈mv,xs.length=mv.length) (wp:∀xs∈pt,xs.length=mv.length) (h:Gd mv pt i R ps) (h':bB (kry mv pt (i+1)) mv.length R' ps'):Gd mv pt (i+1) R' ps'/\(mv.length<=i->R'=R):=by
 obtain ⟨h0,t,t1,t2,ht,hs⟩:=h
 have st:(∀s,bB (kry mv pt (t+s)) mv.length R ps)->Gd mv pt (i+1) R' ps'/\(mv.length<=i->R'=R):=λhs=>by
  have:=hs (i+1 - t);rw[show t+(i+1 - t)=i+1 by lia] at this;obtain ⟨rfl,rfl⟩:=this.same h';exact ⟨⟨h',t,t1,by lia,ht,.inr hs⟩,λ_=>rfl⟩
 rcases hs with rfl | hs
 ·have gr:=Be rfl wm wp h0 h';by_cases e:ps'.length=ps.length
  ·exact st (EJ wm wp h0 h' e)
  ·refine ⟨⟨h',t+1,by lia,ao _,h',.inl rfl⟩,λhn=>?_⟩;have:=h'.le
   lia
 ·exact st hs
theorem Gd.late (h:Gd mv pt i R ps) (hi:mv.length < i) (hj:mv.length<=j):bB (kry mv pt j) mv.length R ps:=by
 obtain ⟨h0,t,t1,t2,ht,hs⟩:=h;have le:=h0.le;rcases hs with rfl | hs
 ·lia
 ·have:=hs (j - t);rwa [show t+(j - t)=j by lia] at this
end
def pT (mv:LR9):Nat->List Rat->List Rat
 | 0,x=>x
 | t+1,x=>oB mv (pT mv t x)
section
variable {mv pt lk pus:LR9} {st pu go:List Rat} {n t T c:Nat}
theorem CU (h:st.length=mv.length):∀t,(pT mv t st).length=mv.length
 | 0=>h
 | _+1=>pV
theorem zW:∀t,(kry mv pt t).length=t*pt.length
 | 0=>by rw[Nat.zero_mul];rfl
 | t+1=>by
  show (pt++(kry mv pt t).map (oB mv)).length=_
  rw[aw,ag,zW t,j3,uF]
end
section
variable {K:FG9} {H0 H H':Hp} {l p q:Addr} {R:LR9} {v:V} {mv pt:LR9} {u T:Nat}
def Kj (mv pt:LR9) (u:Nat):List (LR9):=(List.range u).map λs=>pt.map (pT mv s)
theorem HZ:Kj mv pt (u+1)=Kj mv pt u++[pt.map (pT mv u)]:=by unfold Kj;rw[mS,bH];rfl
theorem Ak:∀u,(Kj mv pt u).flatten=kry mv pt u
 | 0=>rfl
 | u+1=>by
  have e:Kj mv pt (u+1)=pt :: (Kj mv pt u).map (List.map (oB mv)):=by
   unfold Kj;rw[List.range_succ_eq_map,fV,oA];congr 1
   ·exact rL pt
   ·rw[oA];refine List.map_congr_left λs _=>?_
    show pt.map (pT mv (s+1))=(pt.map (pT mv s)).map (oB mv)
    rw[oA];rfl
  rw[e,gN,<- List.map_flatten,Ak u];rfl
end
section
variable {mv pt lk rows R N Hd:LR9} {st pr go:List Rat} {n r t T a c W B:Nat} {ps psd:List Nat} {Pm Y Z:Nat->Nat->Rat} {d:Rat}
theorem Kb (F:oF mv pt a c) (D8:mv.length<=8) (wm:∀xs∈mv,xs.length=mv.length) (wp:∀xs∈pt,xs.length=mv.length):∀T,∃R ps,Gd mv pt T R ps:=by
 intro T
 induction T with
 | zero=>exact ⟨_,_,Gd.start⟩
 | succ T ih =>
  obtain ⟨R,ps,G⟩:=ih;obtain ⟨RR,t,t1,t2,RRt,hs⟩:=id G;have le:=RR.le
  obtain ⟨R',ps',d,ls,S⟩:=xR (n:=mv.length) (rows:=pt++R.map (oB mv)) (λxs hx=>by
   rcases ax.mp hx with hx | hx
   ·exact wp xs hx
   ·obtain ⟨y,_,rfl⟩:=ay.mp hx;exact pV) (F.step D8 wm wp (t:=t) (by lia) RRt)
  have RR':=qK rfl wm wp RR S.rr;exact ⟨R',ps',(G.step wm wp RR').1⟩
theorem Kd (h1:∀i j,i < j->j < ps.length->ps.getD i 0 < ps.getD j 0) (h2:∀j,j < ps.length->ps.getD j 0 < n):(gP ps n).length+ps.length=n:=by
 have key:∀i,∃k,k<=ps.length/\(gP ps i).length+k=i/\(∀j,j < k->ps.getD j 0 < i)/\∀j,k<=j->j < ps.length->i<=ps.getD j 0:=by
  intro i
  induction i with
  | zero=>exact ⟨0,bo _,rfl,λj hj=>absurd hj (eN _),λj _ _=>bo _⟩
  | succ i ih =>
   obtain ⟨k,k1,k2,k3,k4⟩:=ih;rw[nR];by_cases hk:k < ps.length/\ps.getD k 0=i
   ·have hm:i∈ps:=by rw[<- hk.2];exact getD_in hk.1
    rw[if_neg (λz=>z hm)];refine ⟨k+1,hk.1,by lia,λj hj=>?_,λj hj hl=>?_⟩
    ·rcases bR j k with z | z
     ·have:=k3 j z;lia
     ·rw[show j=k by lia,hk.2];lia
    ·have:=h1 k j (by lia) hl
     lia
   ·have hm:i∉ps:=λz=>by
     obtain ⟨j,hj,ej⟩:=bK z;have ej':ps.getD j 0=i:=by rw[aa,af hj];exact ej
     rcases bR j k with y | y
     ·have:=k3 j y;lia
     ·rcases bR k j with x | x
      ·have:=h1 k j x hj;have:=k4 k (ao _) (by lia)
       lia
      ·exact hk ⟨by lia,by rw[show k=j by lia];exact ej'⟩
    rw[if_pos hm];refine ⟨k,k1,by rw[aw,aS];lia,λj hj=>by have:=k3 j hj;lia,λj hj hl=>?_⟩;have:=k4 j hj hl;rcases bR i (ps.getD j 0) with y | y
    ·exact y
    ·exact absurd (by rw[show i=ps.getD j 0 by lia];exact getD_in hl) hm
 obtain ⟨k,k1,k2,k3,k4⟩:=key n;rcases bR k ps.length with z | z
 ·have:=k4 k (ao _) z;have:=h2 k z
  lia
 ·lia
theorem HG:∀xs∈lX R ps n,xs.length=n:=λxs hx=>by
 obtain ⟨_,_,_,rfl⟩:=ou hx;exact vH
end
structure Bd (mv pt:LR9) (M1 M2 V a1 a2 c:Nat):Prop where
 m1:0 < M1
 m2:0 < M2
 b1:M1<=2^a1
 b2:M2<=2^a2
 gm:GF M1 V mv
 gp:GF M2 V pt
 vc:(mv.length+4)*V<=2^c
section
variable {mv pt lk pus:LR9} {st pu go:List Rat} {M1 M2 V a1 a2 c N Np p t T ν:Nat}
theorem Bd.v1 (B:Bd mv pt M1 M2 V a1 a2 c):V<=2^c:=aj (dZ _ (by lia)) B.vc
theorem Fy (h0:0 < M) (h1:M<=2^a) (h2:W<=2^b) (hab:a+b<=3990) (h:Fr M W x):oa x:=by
 refine uK (Tp.of h (ao _)) h0 (aj h1 (ar (by decide) (by lia))) ?_;refine aj (aP h2 h1) ?_;rw[<- bI];exact ar (by decide) (by lia)
end
section
variable {mv pt lk pus:LR9} {st pu go:List Rat} {M1 M2 V a1 a2 c N Np p t T ν k:Nat}
theorem vh (h:M<=2^a) (hN:N<=2^ν):M^t*N<=2^(a*t+ν):=by
 rw[bI,Nat.pow_mul];exact aP (Ar h t) hN
def Mj (mv:LR9) (st:List Rat) (T:Nat):Prop:=∃M1 V a1 c N p ν,0 < M1/\M1<=2^a1/\GF M1 V mv/\(mv.length+4)*V<=2^c/\0 < N/\N<=2^ν/\(∀x∈st,Fr N (2^p) x)/\a1*(T+1)+ν+c*(T+1)+p<=3900
theorem JJ (gm:GF M1 V mv) (wm:∀xs∈mv,xs.length=mv.length) (vc:(mv.length+4)*V<=2^c) (ls:st.length=mv.length) (hs:∀x∈st,Fr N (2^p) x):∀t,∀x∈pT mv t st,Fr (M1^t*N) (2^(c*t+p)) x:=by
 intro t
 induction t with
 | zero =>
  intro x hx;rw[Nat.pow_zero,FW,Nat.mul_zero,Nat.zero_add];exact hs x hx
 | succ t ih =>
  intro x hx;obtain ⟨row,hr,rfl⟩:=ay.mp (show x∈mv.map λxs=>eh xs (pT mv t st) from hx);have f:=Fr.dot (gm row hr) ih;rw[<- cb,cp M1,<- fE] at f;refine f.mono ?_;rw[wm row hr,<- cb,show c*(t+1)+p=c+(c*t+p) by rw[fB];lia,bI 2 c];exact aB _ (aj (aB V (show mv.length<=mv.length+4 by lia)) vc)
theorem Mj.fit (h:Mj mv st T) (wm:∀xs∈mv,xs.length=mv.length) (ls:st.length=mv.length) (ht:t<=T):(∀xs∈mv,xA xs (pT mv t st))/\∀x∈pT mv t st,oa x:=by
 obtain ⟨M1,V,a1,c,N,p,ν,m0,m1,gm,vc,N0,hN,hs,sz⟩:=h;have f:=JJ gm wm vc ls hs t;have V1:V<=2^c:=aj (dZ _ (by lia)) vc;have e1:a1*t<=a1*T:=cv _ ht;have e2:c*t<=c*T:=cv _ ht;rw[fB,fB,Nat.mul_one,Nat.mul_one] at sz;exact ⟨λxs hx=>⟨a1,c,a1*t+ν,c*t+p,⟨M1,V,m0,m1,V1,gm xs hx⟩,⟨M1^t*N,2^(c*t+p),cD (FV m0) N0,vh m1 hN,ao _,f⟩,by lia⟩,λx hx=>Fy (cD (FV m0) N0) (vh m1 hN) (ao _) (by lia) (f x hx)⟩
def LG (mv pt:LR9) (T:Nat):Prop:=∃M1 M2 V a1 a2 c,Bd mv pt M1 M2 V a1 a2 c/\a1*(T+1)+a2+c*(T+2)<=3900
theorem LG.row (h:LG mv pt T) (wm:∀xs∈mv,xs.length=mv.length) (wp:∀xs∈pt,xs.length=mv.length):∀xs∈pt,Mj mv xs T:=λxs hx=>by
 obtain ⟨M1,M2,V,a1,a2,c,B,sz⟩:=h;refine ⟨M1,V,a1,c,M2,c,a2,B.m1,B.b1,B.gm,B.vc,B.m2,B.b2,λx hx'=>(B.gp xs hx x hx').mono B.v1,?_⟩;rw[fB c T 2] at sz;rw[fB c T 1]
 lia
end
inductive xQ (K:FG9) (vs:List V) (H:Hp) (Q:VK) (E9:XK):Prop
 | mk (r:Addr) (T:Nat) (H0:Hp) (mv pt lk:LR9):vs=[.ref r,.int T]->T<=20->fv K H0 H r mv pt lk->kC mv pt lk->LG mv pt T->(∀q H',H q=none->aF H H'->bg K H H' q (kry mv pt T)->Q (.ref q) H')->xQ K vs H Q E9
section
variable {X:Cx}
end
theorem E5 (ws vs:List V) (M1 M2 M3:Nat):∃μ:V->Nat,(∀x∈ws,μ x=M2)/\(∀x∈vs,x∉ws->μ x=M3)/\(∀x,x∉ws->x∉vs->μ x=M1)/\∀x,μ x=M1\/μ x=M2\/μ x=M3:=by
 classical
 refine ⟨λx=>if x∈ws then M2 else if x∈vs then M3 else M1,λx h=>if_pos h,λx h h'=>?_,λx h h'=>?_,λx=>?_⟩
 ·show (if x∈ws then M2 else if x∈vs then M3 else M1)=M3
  rw[if_neg h',if_pos h]
 ·show (if x∈ws then M2 else if x∈vs then M3 else M1)=M1
  rw[if_neg h,if_neg h']
 ·show (if x∈ws then M2 else if x∈vs then M3 else M1)=M1\/(if x∈ws then M2 else if x∈vs then M3 else M1)=M2\/(if x∈ws then M2 else if x∈vs then M3 else M1)=M3
  by_cases h:x∈ws
  ·rw[if_pos h];exact .inr (.inl rfl)
  ·rw[if_neg h];by_cases h':x∈vs
   ·rw[if_pos h'];exact .inr (.inr rfl)
   ·rw[if_neg h'];exact .inl rfl
theorem gM.apart {K:FG9} (h:gM K A H n C m p l b q0 us ws vs):(∀x∈us,x∉ws/\x∉vs)/\∀x∈vs,x∉ws:=by
 obtain ⟨n1,n2,n3⟩:=cV.mp h.nd;obtain ⟨n4,n5,n6⟩:=cV.mp n1;exact ⟨λx hx=>⟨λz=>n3 x (ax.mpr (.inl hx)) x z rfl,λz=>n6 x hx x z rfl⟩,λx hx z=>n3 x (ax.mpr (.inr hx)) x z rfl⟩
theorem gM.fr3 {K:FG9} (h:gM K A H n (λ_=>Dr (2^c)) m p l b q0 us ws vs):∃M1 M2 M3,0 < M1/\0 < M2/\0 < M3/\M1<=2^(c*(n*n))/\M2<=2^(c*(ws.length*n))/\M3<=2^(c*(vs.length*n))/\(∀x∈us,dX K A H n (Fr M1 (2^c)) x)/\(∀x∈ws,dX K A H n (Fr M2 (2^c)) x)/\∀x∈vs,dX K A H n (Fr M3 (2^c)) x:=by
 have one:∀l:List V,(∀x∈l,x∈us++vs++ws)->∃M,0 < M/\M<=2^(c*(l.length*n))/\∀x∈l,dX K A H n (Fr M (2^c)) x:=λl hl=>by
  obtain ⟨ra,pa,la,ha⟩:=vd λx hx=>h.row x (hl x hx)
  obtain ⟨M,m0,m1,m2⟩:=GB (c:=c) (n:=n) (rows:=ra) ha;exact ⟨M,m0,by rw[la] at m1;exact m1,BP pa λqs hq=>⟨(ha qs hq).1,m2 qs hq⟩⟩
 obtain ⟨M1,a1,a2,a3⟩:=one us λx hx=>by simp [hx]
 obtain ⟨M2,b1,b2,b3⟩:=one ws λx hx=>by simp [hx]
 obtain ⟨M3,c1,c2,c3⟩:=one vs λx hx=>by simp [hx]
 rw[h.lm] at a2;exact ⟨M1,M2,M3,a1,b1,c1,a2,b2,c2,a3,b3,c3⟩
inductive xK (K:FG9) (xs:List V) (H:Hp) (Q:VK) (E9:XK):Prop
 | mk (b m p l q0:Addr) (n V1:Nat) (μ:V->Nat) (A:Addr->Prop) (us ws vs:List V):xs=[.ref b,.ref m,.ref p,.ref l]->Bx A m p l b q0->gM K A H n (λx=>Fr (μ x) V1) m p l b q0 us ws vs->n<=8->ws.length<=4->vs.length<=4->(∀x,0 < μ x)->(∀x,μ x<=2^800)->(∃M,∀x,x∉ws->x∉vs->μ x=M)->V1<=2^20->(∀q,H q=none->A q)->(∀r us' H',H' r=some (.tup [.ref m,.ref p,.ref l])->gM K A H' n (λx=>Fr (μ x) (9^3*V1)) m p l b q0 us' ws vs->fk A b m H H'->Q (.ref r) H')->xK K xs H Q E9
def Mh (n i o w c:Nat) (mv pt lk:LR9):Prop:=∃M1 M2 M3 V1:Nat,0 < M1/\0 < M2/\0 < M3/\GF M1 V1 mv/\GF M2 V1 pt/\GF M3 V1 lk/\((w<=9/\M1=2520/\M2=2520/\M3=2520/\V1=9^3*9)\/(9 < w/\M1<=2^(c*(n*n))/\M2<=2^(c*(i*n))/\M3<=2^(c*(o*n))/\V1=9^3*2^c))
inductive xI (K:FG9) (vs:List V) (H:Hp) (Q:VK) (E9:XK):Prop
 | mk (b:Addr) (n i o w c:Nat):vs=[.ref b,.int n,.int i,.int o,.int w]->fR H b->n<=8->i<=4->o<=4->1<=w->w<=1000000->max w 6<=2^c->c<=20->c*((n+i+o)*n)<=800->(∀r mv pt lk H',fv K H H' r mv pt lk->mv.length=n->pt.length=i->lk.length=o->kC mv pt lk->Mh n i o w c mv pt lk->fR H' b->cF b H H'->Q (.ref r) H')->xI K vs H Q E9
def Rg (mv pt:LR9) (w:Nat):Prop:=(w<=9/\Bd mv pt 1 1 (9^3) 0 0 14)\/(w<=9/\mv.length<=5/\Bd mv pt 2520 2520 (9^3*9) 12 12 16)\/(w=1000/\mv.length<=2/\∃M1 M2,Bd mv pt M1 M2 (9^3*2^20) 80 160 33)
def Gx (K:FG9):Sp:=λvs H Q _=>∃b:Addr,vs=[.ref b]/\fR H b /\
 ∀t r (w a c:Nat) mv pt lk H',H' t=some (.tup [.ref r,.int w])->fv K H H' r mv pt lk->kC mv pt lk->Kk mv pt lk->oF mv pt a c->Rg mv pt w->1<=w->w<=1000->fR H' b->cF b H H'->Q (.ref t) H'
theorem Cj {M V:Nat} (h:GF M V l) (k:Nat):GF (k*M) V l:=λxs hx x hx'=>(h xs hx x hx').scaleL k
theorem Mh.n {n i o w c:Nat} (h:Mh n i o w c mv pt lk):PtF n i o w c mv pt lk:=by
 obtain ⟨M1,M2,M3,V1,a1,a2,a3,f1,f2,f3,hc⟩:=h;rcases hc with ⟨w9,rfl,rfl,rfl,e⟩ | ⟨w9,e1,e2,e3,e⟩
 ·exact ⟨2520,V1,by decide,f1,f2,f3,.inl ⟨w9,rfl,e⟩⟩
 ·refine ⟨M1*M2*M3,V1,cD (cD a1 a2) a3,?_,?_,?_,.inr ⟨w9,?_,e⟩⟩
  ·have:=Cj f1 (M2*M3);rwa [show M2*M3*M1=M1*M2*M3 by rw[cp (M2*M3),cb]] at this
  ·have:=Cj f2 (M1*M3);rwa [show M1*M3*M2=M1*M2*M3 by rw[cb,cp M3,cb]] at this
  ·exact Cj f3 (M1*M2)
  ·refine aj (aP (aP e1 e2) e3) ?_;rw[<- bI,<- bI,show c*((n+i+o)*n)=c*(n*n)+c*(i*n)+c*(o*n) by rw[Nat.add_mul,Nat.add_mul,fB,fB]];exact ao _
section
variable {mv pt lk pus:LR9} {st pu go pr:List Rat} {M1 M2 V a1 a2 c B b g p t T w:Nat}
theorem Bd.kry (X:Bd mv pt M1 M2 V a1 a2 c) (D:kC mv pt lk):∀t,∀xs∈kry mv pt t,∀x∈xs,Fr (M1^(t - 1)*M2) (2^(c*t)) x:=by
 intro t
 induction t with
 | zero=>intro xs hx;exact nomatch hx
 | succ t ih =>
  intro xs hx x hx';rcases ax.mp (show xs∈pt++(L2.kry mv pt t).map (oB mv) from hx) with hx | hx
  ·refine Fr.up (X.gp xs hx x hx') (Em _ _) (aj X.v1 (ar (by decide) ?_));exact c6 _ (by lia)
  ·obtain ⟨ys,hy,rfl⟩:=ay.mp hx;obtain ⟨row,hr,rfl⟩:=ay.mp (show x∈mv.map λzs=>eh zs ys from hx');rcases t with _ | t
   ·exact nomatch hy
   have f:=Fr.dot (X.gm row hr) (ih ys hy);rw[show M1*(M1^(t+1 - 1)*M2)=M1^(t+1+1 - 1)*M2 by rw[<- cb,show t+1 - 1=t by lia,show t+1+1 - 1=t+1 by lia,fE,cp M1]] at f;refine f.mono ?_;rw[D.mw row hr,<- cb,show c*(t+1+1)=c+c*(t+1) by rw[fB c (t+1)];lia,bI 2 c];exact aB _ (aj (aB V (show mv.length<=mv.length+4 by lia)) X.vc)
end
open PySem.MeetsSeq
theorem vq:∀{bs:List Bool} {ys:List V},Paired (λb y=>y=V.bl b) bs ys->ys=bs.map V.bl
 | _,_,.nil=>rfl
 | _,_,.cons h t=>by rw[h,vq t];rfl
section
variable {mv:LR9} {M:Int}
theorem CC:(j8 n a).length=n:=by unfold j8;rw[ag,bC]
end
section
variable {mv pt lk F R:LR9} {n m:Nat} {ps:List Nat} {x:Nat->Rat} {st pu:List Rat}
end
inductive uT (K:FG9) (vs:List V) (H:Hp) (Q:VK) (E9:XK):Prop
 | mk (p q:Addr) (w:Nat) (H0 H1:Hp) (one other:LR9):vs=[.ref p,.ref q,.int w]->bg K H0 H p one->bg K H1 H q other->one.length<=1000->other.length<=1000->w<=1000->((∀xs∈one,xs.length=other.length/\∀ys∈d5 other w,xA ys xs))->(∀xs∈other,xs.length=w)->(∀r H',H r=none->aF H H'->bg K H H' r (fq one other w)->Q (.ref r) H')->uT K vs H Q E9
section
variable {X:Cx} {CX:FT} {k:Nat} {f C:Addr} {fd:FuncData} {ps:List Str} {sp:Sp} {dvs:List V} {ds:List Value} {E:St->XK} {x n:Str} {p pos hpos np:Pos} {e:Expr} {es:List Expr} {t:TA}
end
open PySem.W
def Fn (inv mv rows:LR9) (n:Nat):LR9:=fq (fq inv mv n) (d5 rows n) n
def J7 (inv pt:LR9):LR9:=pt.map λxs=>inv.map λr=>eh r xs
theorem Bj {rows:LR9} (h:rows[i]?=some xs):b7 (rows.map f) i j=(f xs).getD j 0:=by
 unfold b7;rw[aa (l:=rows.map f),aD,h];rfl
theorem sQ (h:rows[i]?=some xs):b7 rows i j=xs.getD j 0:=by
 unfold b7;rw[aa (l:=rows),h];rfl
theorem HJ {rows:LR9} {f:List Rat->Rat} (h:rows[i]?=some xs):(rows.map f).getD i 0=f xs:=by
 rw[aa,aD,h];rfl
theorem Jl {f:Nat->Rat} (h:i < n):((List.range n).map f).getD i 0=f i:=by
 rw[aa,aD,cS h];rfl
theorem uH (h:i < w):b7 (d5 rows w) i j=b7 rows j i:=by
 unfold d5;rw[sQ (xs:=rows.map λxs=>xs.getD i 0) (by rw[aD,cS h];rfl)];unfold b7;rw[aa,aa (l:=rows),aD];cases rows[j]? <;> rfl
theorem Ay (hi:i < one.length) (ho:∀xs∈one,xs.length=other.length) (hj:j < w):b7 (fq one other w) i j=bS other.length λl=>b7 one i l*b7 other l j:=by
 have e:=af hi;have l:=ho _ (aZ hi);unfold fq;rw[Bj e];unfold d5;rw[oA,Jl hj];show eh (other.map λxs=>xs.getD j 0) _=_
 rw[jE (by rw[ag];lia),ag];refine bw λa ha=>?_
 rw[sQ e,iC];congr 1;rw[HJ (af ha),sQ (af ha)]
section
variable {inv mv pt lk rows:LR9} {n:Nat} {own pu:List Rat}
theorem qL (hi:Aq inv n):(Fn inv mv rows n).length=n:=by unfold Fn fq;rw[ag,ag,hi.1]
theorem IF:∀xs∈Fn inv mv rows n,xs.length=n:=λxs hx=>by
 unfold Fn fq at hx;obtain ⟨ys,_,rfl⟩:=ay.mp hx;rw[ag,fL]
theorem Ij:∀xs∈fq one other n,xs.length=n:=λxs hx=>by
 unfold fq at hx;obtain ⟨ys,_,rfl⟩:=ay.mp hx;rw[ag,fL]
theorem J8 (hi:Aq inv n) (hm:Aq mv n) (h1:i < n) (h2:k < n):b7 (Fn inv mv rows n) i k=bS n λc=>(bS n λa=>b7 inv i a*b7 mv a c)*b7 rows k c:=by
 unfold Fn;rw[Ay (by unfold fq;rw[ag,hi.1];exact h1) (λxs hx=>by rw[fL];exact Ij xs hx) h2,fL];refine bw λc hc=>?_
 rw[uH hc,Ay (by rw[hi.1];exact h1) (λxs hx=>by rw[hi.2 xs hx,hm.1]) hc,hm.1]
theorem p9 (hr:Aq rows n):Aq (d5 rows n) n:=⟨fL,λxs hx=>by rw[xD xs hx,hr.1]⟩
end
theorem qM {M V w:Nat} (h:GF M V rows):GF M V (d5 rows w):=λys hy y hy'=>by
 obtain ⟨j,_,rfl⟩:=ay.mp hy;obtain ⟨xs,hx,rfl⟩:=ay.mp hy';rw[aa];cases e:xs[j]? with
 | none=>exact Fr.zero
 | some z=>exact h xs hx z (av e)
theorem jU {M V k j:Nat} (h:GF M V rows) (M0:0 < M) (hM:M<=2^k) (hV:V<=2^j):∀xs∈rows,rK k j xs:=λxs hx=>⟨M,V,M0,hM,hV,h xs hx⟩
theorem Ci {M V k j:Nat} (h:GF M V rows) (M0:0 < M) (hM:M<=2^k) (hV:V<=2^j) (hk:k+j<=3990):∀xs∈rows,∀x∈xs,oa x:=λxs hx x hx'=>Fy M0 hM hV hk (h xs hx x hx')
theorem Bi {M N V W w:Nat} (h1:GF N W one) (h2:GF M V other):GF (M*N) (other.length*(V*W)) (fq one other w):=λxs hx x hx'=>by
 unfold fq at hx;obtain ⟨os,ho,rfl⟩:=ay.mp hx;obtain ⟨ys,hy,rfl⟩:=ay.mp hx';have l:=xD ys hy;rw[<- l];exact Fr.dot (qM h2 ys hy) (h1 os ho)
theorem IK {M N V W n:Nat} (h1:GF N W one) (h2:GF M V other) (hw:∀xs∈one,xs.length=n):GF (N*M) (n*(W*V)) (other.map λxs=>one.map λr=>eh r xs):=λzs hz z hz'=>by
 obtain ⟨xs,hx,rfl⟩:=ay.mp hz;obtain ⟨r,hr,rfl⟩:=ay.mp hz';have:=Fr.dot (h1 r hr) (h2 xs hx);rwa [hw r hr] at this
theorem uA {M V W:Nat} (h:GF M V rows) (hv:V<=W):GF M W rows:=λxs hx x hx'=>(h xs hx x hx').mono hv
section
variable {mv pt lk rows inv:LR9} {M1 M2 V a1 a2 c Mr D n:Nat}
theorem IB (h1:x<=2^i) (h2:y<=2^j) (h:i+j<=k):x*y<=2^k:=aj (aP h1 h2) (by rw[<- bI];exact ar (by decide) h)
structure F71 (mv pt lk rows inv:LR9):Prop where
 f1:∀xs∈inv,∀ys∈d5 mv mv.length,xA ys xs
 f2:∀xs∈fq inv mv mv.length,∀ys∈d5 (d5 rows mv.length) mv.length,xA ys xs
 f3:∀ys∈pt,∀xs∈inv,xA xs ys
 f4:∀ys∈lk,∀xs∈rows,xA xs ys
 g1:Ig (Fn inv mv rows mv.length)
 g2:Ig (J7 inv pt)
 g3:Ig (lk.map λxs=>rows.map λr=>eh r xs)
end
theorem Dd (D:kC mv pt lk) (hi:Aq inv mv.length) (hr:Aq rows mv.length):kC (Fn inv mv rows mv.length) (J7 inv pt) (lk.map λxs=>rows.map λr=>eh r xs):=by
 have lM:=qL (mv:=mv) (rows:=rows) hi;refine ⟨by rw[lM];exact D.n8,by unfold J7;rw[ag];exact D.i4,by rw[ag];exact D.o4,λxs hx=>by rw[lM];exact IF xs hx,λxs hx=>?_,λxs hx=>?_⟩
 ·obtain ⟨ys,_,rfl⟩:=ay.mp hx;rw[ag,lM,hi.1]
 ·obtain ⟨ys,_,rfl⟩:=ay.mp hx;rw[ag,lM,hr.1]
def pI (R:LR9) (ps:List Nat) (n:Nat):LR9:=R++(gP ps n).map λa=>j8 n ((a:Nat):Int)
def stC (R:LR9) (ps:List Nat) (n:Nat):LR9:=ps.map (λa=>j8 n ((a:Nat):Int))++lX R ps n
theorem Eu (h:c < n):(j8 n ((a:Nat):Int)).getD c 0=if c=a then 1 else 0:=by
 unfold j8;rw[aa,aD,cS h];by_cases e:c=a
 ·subst e;simp
 ·have:¬(c:Int)=(a:Int):=by lia
  simp [this,e]
theorem E8 {l:List Nat} (h:t < l.length):b7 (l.map f) t c=(f (l.getD t 0)).getD c 0:=by
 unfold b7;rw[aa (l:=List.map f l),aD,aa (l:=l),af h];rfl
theorem Fz (hs:s < (gP ps n).length) (ht:t < (gP ps n).length) (e:(gP ps n).getD s 0=(gP ps n).getD t 0):s=t:=by
 have nd:(gP ps n).Nodup:=List.Nodup.sublist List.filter_sublist List.nodup_range;rw[aa,aa,af hs,af ht] at e;exact (List.getElem_inj nd).mp e
section
variable {rows R mv pt:LR9} {ps:List Nat} {n:Nat}
theorem BS (RR:bB rows n R ps) (hi:i < ps.length) (hj:j < ps.length) (e:ps.getD i 0=ps.getD j 0):i=j:=by
 rcases eP i j with q | q | q
 ·have:=RR.2.2.inc i j q hj;lia
 ·exact q
 ·have:=RR.2.2.inc j i q hi;lia
theorem yg (RR:bB rows n R ps):(gP ps n).length+ps.length=n:=Kd RR.2.2.inc RR.2.2.low
theorem Di (ht:t < (gP ps n).length):(gP ps n).getD t 0 < n/\(gP ps n).getD t 0∉ps:=Aa.mp (getD_in ht)
theorem CJ (RR:bB rows n R ps) (ha:a < ps.length):b7 (pI R ps n) a i=b7 R a i:=by
 unfold pI;rw[Bt (by rw[RR.1];exact ha)]
theorem CI (RR:bB rows n R ps) (ht:t < (gP ps n).length) (hi:i < n):b7 (pI R ps n) (ps.length+t) i=if i=(gP ps n).getD t 0 then 1 else 0:=by
 unfold pI;rw[<- RR.1,rh,E8 ht,Eu hi]
theorem EB (ha:a < ps.length) (hi:i < n):b7 (stC R ps n) a i=if i=ps.getD a 0 then 1 else 0:=by
 unfold stC;rw[Bt (by rw[ag];exact ha),E8 ha,Eu hi]
theorem CH (ht:t < (gP ps n).length):b7 (stC R ps n) (ps.length+t) i=(xf R ps n ((gP ps n).getD t 0)).getD i 0:=by
 unfold stC lX;have:=rh (X:=ps.map λa=>j8 n ((a:Nat):Int)) (Y:=(gP ps n).map (xf R ps n)) (i:=t);rw[ag] at this;rw[this,E8 ht]
theorem uv (RR:bB rows n R ps):Aq (pI R ps n) n:=by
 have:=yg RR;refine ⟨by unfold pI;rw[aw,ag,RR.1];lia,λxs hx=>?_⟩;rcases ax.mp hx with hx | hx
 ·exact RR.2.1 xs hx
 ·obtain ⟨a,_,rfl⟩:=ay.mp hx;exact CC
theorem jJ (RR:bB rows n R ps):Aq (stC R ps n) n:=by
 have:=yg RR;refine ⟨by unfold stC lX;rw[aw,ag,ag];lia,λxs hx=>?_⟩;rcases ax.mp hx with hx | hx
 ·obtain ⟨a,_,rfl⟩:=ay.mp hx;exact CC
 ·exact HG xs hx
theorem HH (RR:bB rows n R ps) (hj:j < ps.length) (ha:a∉ps):(xf R ps n a).getD (ps.getD j 0) 0=-(b7 R j a):=by
 unfold xf;rw[E2 (RR.2.2.low j hj),if_neg (λe=>ha (by rw[<- e];exact getD_in hj)),dD hj λi hi ne=>if_neg λz=>ne (BS RR hi hj z),if_pos rfl]
theorem HI (RR:bB rows n R ps) (ht:t < (gP ps n).length) (hk:k < ps.length):(bS n λj=>(xf R ps n ((gP ps n).getD t 0)).getD j 0*b7 R k j)=0:=by
 obtain ⟨f1,f2⟩:=Di ht;have hk':k < R.length:=by rw[RR.1];exact hk
 have w:=RR.2.1 _ (aZ hk');have d:=Ca (GA RR) f1 f2 (af hk') w;rw[jE (by rw[w];exact vH.symm),w] at d;refine Eq.trans (bw λj _=>?_) d;rw[sQ (af hk'),iC]
theorem KR (RR:bB rows n R ps):Ib (stC R ps n) (d5 (pI R ps n) n) n:=λi hi k hk=>by
 have cn:=yg RR;rw[bw (g:=λj=>b7 (stC R ps n) i j*b7 (pI R ps n) k j) λj hj=>by rw[uH hj]];rcases bR i ps.length with h1 | h1
 ·have lo:=RR.2.2.low i h1;rw[dD lo λj hj ne=>by rw[EB h1 hj,if_neg ne,DA],EB h1 lo,if_pos rfl,yP];rcases bR k ps.length with h2 | h2
  ·rw[CJ RR h2,RR.2.2.unit k h2 i h1];by_cases e:i=k
   ·rw[if_pos e,if_pos e.symm]
   ·rw[if_neg e,if_neg λz=>e z.symm]
  ·obtain ⟨t,rfl⟩:=ui h2;have ht:t < (gP ps n).length:=by lia
   rw[CI RR ht lo,if_neg (λe=>(Di ht).2 (by rw[<- e];exact getD_in h1)),if_neg (by lia)]
 ·obtain ⟨s,rfl⟩:=ui h1;have hs:s < (gP ps n).length:=by lia
  rcases bR k ps.length with h2 | h2
  ·rw[bw (g:=λj=>(xf R ps n ((gP ps n).getD s 0)).getD j 0*b7 R k j) λj _=>by rw[CH hs,CJ RR h2],HI RR hs h2,if_neg (by lia)]
  ·obtain ⟨t,rfl⟩:=ui h2;have ht:t < (gP ps n).length:=by lia
   obtain ⟨f1,f2⟩:=Di ht;rw[dD f1 λj hj ne=>by rw[CI RR ht hj,if_neg ne,oz],CI RR ht f1,if_pos rfl,FU,CH hs,CZ f1 f2];by_cases e:s=t
   ·subst e;rw[if_pos rfl,if_pos rfl]
   ·rw[if_neg λz=>e (Fz ht hs z).symm,if_neg (by lia)]
theorem KQ (RR:bB rows n R ps):Ib (d5 (pI R ps n) n) (stC R ps n) n:=λi hi k hk=>by
 have cn:=yg RR;rw[bw (g:=λj=>b7 (pI R ps n) j i*b7 (stC R ps n) j k) λj _=>by rw[uH hi]]
 have sp:bS n (λj=>b7 (pI R ps n) j i*b7 (stC R ps n) j k)=bS ps.length (λj=>b7 (pI R ps n) j i*b7 (stC R ps n) j k)+bS (gP ps n).length λt=>b7 (pI R ps n) (ps.length+t) i*b7 (stC R ps n) (ps.length+t) k:=by
  rw[<- xE,show ps.length+(gP ps n).length=n by lia]
 rw[sp,bw (g:=λj=>b7 R j i*if k=ps.getD j 0 then 1 else 0) λj hj=>by rw[CJ RR hj,EB hj hk]];rw[bw (k:=(gP ps n).length) (g:=λt=>(if i=(gP ps n).getD t 0 then 1 else 0)*(xf R ps n ((gP ps n).getD t 0)).getD k 0) λt ht=>by rw[CI RR ht hi,CH ht]]
 have e1:∀j,j < ps.length->ps.getD j 0=k->(bS ps.length λj=>b7 R j i*if k=ps.getD j 0 then 1 else 0)=b7 R j i:=λj hj e=>by
  rw[dD hj λl hl ne=>by rw[if_neg λz=>ne (BS RR hl hj (by rw[<- z,e])),oz],if_pos e.symm,FU]
 have e1':k∉ps->(bS ps.length λj=>b7 R j i*if k=ps.getD j 0 then 1 else 0)=0:=λh=>c5 λj hj=>by rw[if_neg λz=>h (by rw[z];exact getD_in hj),oz]
 have e2:i∉ps->(bS (gP ps n).length λt=>(if i=(gP ps n).getD t 0 then 1 else 0)*(xf R ps n ((gP ps n).getD t 0)).getD k 0)=(xf R ps n i).getD k 0:=λh=>by
  obtain ⟨t,ht,et⟩:=bK (Aa.mpr ⟨hi,h⟩);have eg:(gP ps n).getD t 0=i:=by rw[aa,af ht,et];rfl
  rw[dD ht λs hs ne=>by rw[if_neg λz=>ne (Fz hs ht (by rw[<- z,eg])),DA],if_pos eg.symm,yP,eg]
 have e2':i∈ps->(bS (gP ps n).length λt=>(if i=(gP ps n).getD t 0 then 1 else 0)*(xf R ps n ((gP ps n).getD t 0)).getD k 0)=0:=λh=>c5 λt ht=>by rw[if_neg λz=>(Di ht).2 (by rw[<- z];exact h),DA]
 have ix:∀{x},x∈ps->∃j,j < ps.length/\ps.getD j 0=x:=λh=>by
  obtain ⟨j,hj,e⟩:=bK h;exact ⟨j,hj,by rw[aa,af hj,e];rfl⟩
 by_cases pk:k∈ps
 ·obtain ⟨j,hj,ej⟩:=ix pk;rw[e1 j hj ej];by_cases pi:i∈ps
  ·obtain ⟨l,hl,el⟩:=ix pi;rw[e2' pi,Rat.add_zero,<- el,RR.2.2.unit j hj l hl,<- ej];by_cases e:j=l
   ·subst e;rw[if_pos rfl,if_pos rfl]
   ·rw[if_neg e,if_neg λz=>e (BS RR hl hj z).symm]
  ·rw[e2 pi,<- ej,HH RR hj pi,ej,if_neg λz=>pi (by rw[z];exact pk),Rat.add_neg_cancel]
 ·rw[e1' pk,Rat.zero_add];by_cases pi:i∈ps
  ·rw[e2' pi,if_neg λz=>pk (by rw[<- z];exact pi)]
  ·rw[e2 pi,CZ hk pk];by_cases e:k=i
   ·rw[if_pos e,if_pos e.symm]
   ·rw[if_neg e,if_neg λz=>e z.symm]
theorem Ji (RR:bB rows n R ps) (h:bB (oC (d5 (pI R ps n) n) (cT n)) (n+n) R' ps'):ps'=List.range n/\R'.map (λxs=>xs.drop n)=stC R ps n:=by
 have J:=Fl (p9 (uv RR)) (jJ RR) (KR RR) (KQ RR);obtain ⟨rfl,rfl⟩:=h.same J;exact ⟨rfl,HK uG (jJ RR).1⟩
theorem KP (KF:oF mv pt a c) (D8:mv.length<=8) (wm:∀xs∈mv,xs.length=mv.length) (wp:∀xs∈pt,xs.length=mv.length) (RR:bB (kry mv pt mv.length) mv.length R ps):bB (pt++R.map (oB mv)) mv.length R ps:=by
 obtain ⟨R0,ps0,G⟩:=Kb KF D8 wm wp (mv.length+1);have R1:=G.late (dA _) (ao _);have R2:=G.late (dA _) (mO mv.length);obtain ⟨rfl,rfl⟩:=RR.same R1;exact Bf rfl wm wp R1 R2
theorem Jh (wp:∀xs∈pt,xs.length=mv.length) (RR:bB (kry mv pt mv.length) mv.length R ps) (B:bB (pt++R.map (oB mv)) mv.length R ps) (hx:xs∈pt) (hz:z∈lX R ps mv.length):eh z xs=0:=by
 obtain ⟨a,h1,h2,rfl⟩:=ou hz;obtain ⟨i,hi,rfl⟩:=bK hx;rw[ym];exact Ca B h1 h2 (i:=i) (by rw[bZ hi,af hi]) (wp _ hx)
theorem Gj (RR:bB (kry mv pt mv.length) mv.length R ps) (B:bB (pt++R.map (oB mv)) mv.length R ps) (hx:xs∈R) (hz:z∈lX R ps mv.length):eh z (oB mv xs)=0:=by
 obtain ⟨a,h1,h2,rfl⟩:=ou hz;obtain ⟨i,hi,rfl⟩:=bK hx;rw[ym];exact Ca B h1 h2 (i:=pt.length+i) (by rw[bu (by lia),Nat.add_sub_cancel_left,aD,af hi];rfl) pV
end
structure FZ (mv pt lk R:LR9) (M1 M2 V a1 a2 c q E:Nat):Prop where
 B:Bd mv pt M1 M2 V a1 a2 c
 q0:0 < q
 q1:q<=2^E
 rt:∀xs∈R,∀x∈xs,Tp q (2^E) x
 e1:4*E+a1+a2+c+3<=3900
 e3:2*E<=3000
 e2:mv.length*(E+4)<=8900
 lf:∃M3 V3:Nat,0 < M3/\M3<=2^400/\V3<=2^120/\GF M3 V3 lk
section
variable {mv pt lk R:LR9} {ps:List Nat} {M1 M2 V a1 a2 c q E N w n:Nat}
theorem Lx (B:Bd mv pt M1 M2 V a1 a2 c) (D:kC mv pt lk) (hn:mv.length<=N) (h1:a1*(N - 1)+a2+c*N<=w):0 < M1^(mv.length - 1)*M2/\M1^(mv.length - 1)*M2<=2^w/\∀xs∈kry mv pt mv.length,∀x∈xs,Tp (M1^(mv.length - 1)*M2) (2^w) x:=by
 have q1:a1*(mv.length - 1)<=a1*(N - 1):=cv _ (by lia);have q2:c*mv.length<=c*N:=cv _ hn;have p:=vh (t:=mv.length - 1) B.b1 B.b2;refine ⟨cD (FV B.m1) B.m2,aj p (ar (by decide) (by lia)),λxs hx x hx'=>Tp.of (B.kry D _ xs hx x hx') ?_⟩;exact IB (ao _) p (by lia)
theorem zY (B:Bd mv pt M1 M2 V a1 a2 c) (D:kC mv pt lk) (hn:mv.length<=N) (N8:N<=8) (h1:a1*(N - 1)+a2+c*N<=w) (h2:N*(w+4)<=E) (h3:2*(E+w)<=3990) (h4:a1*(N+1)+a2+c*(N+2)<=3900):LG mv pt mv.length/\∃S,LV (kry mv pt mv.length) mv.length S:=by
 obtain ⟨p0,p1,t⟩:=Lx B D hn h1;have q1:a1*(mv.length+1)<=a1*(N+1):=cv _ (by lia);have q2:c*(mv.length+2)<=c*(N+2):=cv _ (by lia);have q3:min (kry mv pt mv.length).length mv.length*(w+4)<=N*(w+4):=aB _ (by lia);exact ⟨⟨M1,M2,V,a1,a2,c,B,by lia⟩,_,IU.lws (w:=w) (a:=w) ⟨_,2^w,p0,p1,cu,ao _,t,by lia,by lia⟩ (fA rfl D.pw _)⟩
theorem yT (B:Bd mv pt M1 M2 V a1 a2 c) (D:kC mv pt lk) (F:Kk mv pt lk) (hn:mv.length<=N) (N8:N<=8) (h1:a1*(N - 1)+a2+c*N<=w) (h2:N*(w+4)<=E) (h3:4*E+a1+a2+c+3<=3900) (h5:2*E<=3000) (h4:N*(E+4)<=8900) (h6:w<=4000) (RR:bB (kry mv pt mv.length) mv.length R ps):∃q,FZ mv pt lk R M1 M2 V a1 a2 c q E:=by
 obtain ⟨p0,p1,t⟩:=Lx B D hn h1;have q3:min (kry mv pt mv.length).length mv.length*(w+4)<=N*(w+4):=aB _ (by lia);have q4:mv.length*(E+4)<=N*(E+4):=aB _ hn;have S:BA (kry mv pt mv.length) mv.length w:=⟨_,2^w,p0,aj p1 (ar (by decide) (by lia)),cu,ao _,t,by lia,by lia,by lia⟩;obtain ⟨_,q,q0,q1,tq⟩:=Iv (fA rfl D.pw _) S RR;have up:(2:Nat)^(min (kry mv pt mv.length).length mv.length*(w+4))<=2^E:=ar (by decide) (by lia);exact ⟨q,B,q0,aj q1 up,λxs hx x hx'=>(tq xs hx x hx').mono up,h3,h5,by lia,let ⟨M,W,a,b,c,_,_,d⟩:=F;⟨M,W,a,b,c,d⟩⟩
theorem J0 (h:Rg mv pt w) (D:kC mv pt lk):LG mv pt mv.length/\∃S,LV (kry mv pt mv.length) mv.length S:=by
 rcases h with ⟨_,B⟩ | ⟨_,n5,B⟩ | ⟨_,n2,M1,M2,B⟩
 ·exact zY (N:=8) (w:=112) (E:=928) B D D.n8 (by decide) (by decide) (by decide) (by decide) (by decide)
 ·exact zY (N:=5) (w:=140) (E:=720) B D n5 (by decide) (by decide) (by decide) (by decide) (by decide)
 ·exact zY (N:=2) (w:=306) (E:=620) B D n2 (by decide) (by decide) (by decide) (by decide) (by decide)
theorem Ja (h:Rg mv pt w) (D:kC mv pt lk) (F:Kk mv pt lk) (RR:bB (kry mv pt mv.length) mv.length R ps):∃M1 M2 V a1 a2 c q E,FZ mv pt lk R M1 M2 V a1 a2 c q E:=by
 rcases h with ⟨_,B⟩ | ⟨_,n5,B⟩ | ⟨_,n2,M1,M2,B⟩
 ·exact ⟨_,_,_,_,_,_,let ⟨q,z⟩:=yT (N:=8) (w:=112) (E:=928) B D F D.n8 (by decide) (by decide) (by decide) (by decide) (by decide) (by decide) (by decide) RR;⟨q,_,z⟩⟩
 ·exact ⟨_,_,_,_,_,_,let ⟨q,z⟩:=yT (N:=5) (w:=140) (E:=720) B D F n5 (by decide) (by decide) (by decide) (by decide) (by decide) (by decide) (by decide) RR;⟨q,_,z⟩⟩
 ·exact ⟨_,_,_,_,_,_,let ⟨q,z⟩:=yT (N:=2) (w:=306) (E:=620) B D F n2 (by decide) (by decide) (by decide) (by decide) (by decide) (by decide) (by decide) RR;⟨q,_,z⟩⟩
theorem Et (h:M<=W):∀x∈j8 n a,Tp M W x:=λx hx=>by
 obtain ⟨i,_,rfl⟩:=ay.mp hx
 split
 ·exact ⟨M,by rw[yP,aY],by simpa using h⟩
 ·exact Tp.zero
theorem FZ.tb (z:FZ mv pt lk R M1 M2 V a1 a2 c q E):∀xs∈pI R ps n,∀x∈xs,Tp q (2^E) x:=λxs hx x hx'=>by
 rcases ax.mp hx with hx | hx
 ·exact z.rt xs hx x hx'
 ·obtain ⟨a,_,rfl⟩:=ay.mp hx;exact Et z.q1 x hx'
theorem FZ.tc (z:FZ mv pt lk R M1 M2 V a1 a2 c q E) (RR:bB rows n R ps):∀xs∈stC R ps n,∀x∈xs,Tp q (2^E) x:=λxs hx x hx'=>by
 rcases ax.mp hx with hx | hx
 ·obtain ⟨a,_,rfl⟩:=ay.mp hx;exact Et z.q1 x hx'
 ·obtain ⟨a,_,_,rfl⟩:=ou hx;exact Lf z.q0 z.q1 z.rt RR x hx'
theorem F7 (h:∀xs∈rows,∀x∈xs,Tp M W x):∀xs∈d5 rows w,∀x∈xs,Tp M W x:=λys hy y hy'=>by
 obtain ⟨j,_,rfl⟩:=ay.mp hy;obtain ⟨xs,hx,rfl⟩:=ay.mp hy';rw[aa];cases e:xs[j]? with
 | none=>exact Tp.zero
 | some z=>exact h xs hx z (av e)
theorem FZ.sw (z:FZ mv pt lk R M1 M2 V a1 a2 c q E) (n8:mv.length<=8) (RR:bB rows mv.length R ps):BA (oC (d5 (pI R ps mv.length) mv.length) (cT mv.length)) (mv.length+mv.length) E :=
 J5 (M:=q) (p9 (uv RR)) (by lia) z.q0 z.q1 (by have:=z.e3;lia) (F7 z.tb) z.e2
theorem FZ.fit (z:FZ mv pt lk R M1 M2 V a1 a2 c q E) (n8:mv.length<=8) (RR:bB rows mv.length R ps):F71 mv pt lk (pI R ps mv.length) (stC R ps mv.length):=by
 have e1:=z.e1;have e3:=z.e3;have v1:=z.B.v1;have gb:GF q (2^E) (pI R ps mv.length):=λxs hx x hx'=>(z.tb xs hx x hx').fr z.q0
 have gc:GF q (2^E) (stC R ps mv.length):=λxs hx x hx'=>(z.tc RR xs hx x hx').fr z.q0
 have im:GF (M1*q) (2^(c+E)) (fq (stC R ps mv.length) mv mv.length):=uA (Bi gc z.B.gm) (by
  rw[<- cb,bI];exact aB _ (aj (aB _ (uh _ 4)) z.B.vc))
 have m0:0 < M1*q:=cD z.B.m1 z.q0;have m1:M1*q<=2^(a1+E):=IB z.B.b1 z.q1 (ao _)
 have iM:GF (q*(M1*q)) (2^(3+E+(c+E))) (Fn (stC R ps mv.length) mv (pI R ps mv.length) mv.length):=uA (Bi im (qM gb)) (by
  rw[fL,<- cb,bI 2 (3+E)];exact aB _ (IB (i:=3) (by lia) (ao _) (ao _)))
 have iP:GF (q*M2) (2^(c+E)) (J7 (stC R ps mv.length) pt):=uA (IK gc z.B.gp (jJ RR).2) (by
  rw[cp (2^E),<- cb,bI];exact aB _ (aj (aB _ (uh _ 4)) z.B.vc))
 obtain ⟨M3,V3,l0,l1,l2,lg⟩:=z.lf;have iL:GF (q*M3) (2^(3+(E+120))) (lk.map λxs=>(pI R ps mv.length).map λr=>eh r xs):=uA (IK gb lg (uv RR).2) (IB (i:=3) (by lia) (IB (ao _) l2 (ao _)) (ao _))
 refine ⟨λxs hx ys hy=>⟨_,_,_,_,jU (qM z.B.gm) z.B.m1 z.B.b1 v1 ys hy,jU gc z.q0 z.q1 (ao _) xs hx,by lia⟩,
  λxs hx ys hy=>⟨_,_,_,_,jU (qM (qM gb)) z.q0 z.q1 (ao _) ys hy,jU im m0 m1 (ao _) xs hx,by lia⟩,
  λys hy xs hx=>⟨_,_,_,_,jU gc z.q0 z.q1 (ao _) xs hx,jU z.B.gp z.B.m2 z.B.b2 v1 ys hy,by lia⟩,
  λys hy xs hx=>⟨_,_,_,_,jU gb z.q0 z.q1 (ao _) xs hx,jU lg l0 l1 l2 ys hy,by lia⟩,
  λxs hx x hx'=>yY (Ci iM (cD z.q0 m0) (IB z.q1 m1 (ao _)) (ao _) (by lia) xs hx x hx'),
  λxs hx x hx'=>yY (Ci iP (cD z.q0 z.B.m2) (IB z.q1 z.B.b2 (ao _)) (ao _) (by lia) xs hx x hx'),
  λxs hx x hx'=>yY (Ci iL (cD z.q0 l0) (IB z.q1 l1 (ao _)) (ao _) (by lia) xs hx x hx')⟩
theorem Gr (wm:∀xs∈mv,xs.length=mv.length) (RR:bB (kry mv pt mv.length) mv.length R ps) (B:bB (pt++R.map (oB mv)) mv.length R ps):∀xs∈(Fn (stC R ps mv.length) mv (pI R ps mv.length) mv.length).drop ps.length,xs.take ps.length=List.replicate ps.length 0:=λxs hx=>by
 have cn:=yg RR;have hm:Aq mv mv.length:=⟨rfl,wm⟩;have hC:=jJ RR;have wx:=IF xs (mP hx);obtain ⟨s,hs,rfl⟩:=bK hx;rw[List.length_drop,qL hC] at hs;rw[List.getElem_drop] at wx ⊢;have ht:s < (gP ps mv.length).length:=by lia
 apply iF (by rw[cQ,cX,wx];lia);intro j h1 h2;rw[cX] at h2;rw[List.getElem_take,List.getElem_replicate];have e:=J8 (rows:=pI R ps mv.length) hC hm (i:=ps.length+s) (k:=j) (by lia) (by lia);rw[sQ (af (by rw[qL hC];lia)),aa,af (by rw[wx];lia)] at e;refine Eq.trans e ?_;have hj:j < R.length:=by rw[RR.1];exact h2
 have hz:xf R ps mv.length ((gP ps mv.length).getD s 0)∈lX R ps mv.length:=ay.mpr ⟨_,getD_in ht,rfl⟩;have d:=Gj RR B (aZ hj) hz;rw[jE (by rw[pV];exact vH),show (xf R ps mv.length ((gP ps mv.length).getD s 0)).length=mv.length from vH] at d
 rw[bw (g:=λc=>bS mv.length λa=>(xf R ps mv.length ((gP ps mv.length).getD s 0)).getD a 0*(b7 mv a c*b7 R j c)) λc _=>by
  rw[CJ RR h2,iC,<- dM];exact bw λa _=>by rw[CH ht];grind]
 rw[kE];refine Eq.trans (bw λa ha=>?_) d;rw[dM];congr 1;have:=EY rfl wm RR.2.1 hj a;rw[Bj (af hj)] at this;exact this.symm
theorem Gn (wp:∀xs∈pt,xs.length=mv.length) (RR:bB (kry mv pt mv.length) mv.length R ps) (B:bB (pt++R.map (oB mv)) mv.length R ps):∀xs∈J7 (stC R ps mv.length) pt,xs.drop ps.length=List.replicate (mv.length - ps.length) 0:=λxs hx=>by
 have cn:=yg RR;obtain ⟨ys,hy,rfl⟩:=ay.mp hx;unfold stC;rw[bH,FX (by simp),j6 (by simp),cx];refine List.eq_replicate_iff.mpr ⟨by rw[ag];unfold lX;rw[ag];lia,λx hx=>?_⟩;obtain ⟨z,hz,rfl⟩:=ay.mp hx;exact Jh wp RR B hy hz
end
inductive AM (K:FG9) (C:Addr) (vs:List V) (H:Hp) (Q:VK) (E9:XK):Prop
 | mk (x r:Addr) (w:Nat) (H0 H1:Hp) (mv pt lk rows inv:LR9):vs=[.ref x,.ref r]->p5 K H0 H C x mv pt lk->kC mv pt lk->bg K H1 H r rows->Aq rows mv.length->BA (oC (d5 rows mv.length) (cT mv.length)) (mv.length+mv.length) w →
   (∀R ps,bB (oC (d5 rows mv.length) (cT mv.length)) (mv.length+mv.length) R ps->ps=List.range mv.length/\R.map (λxs=>xs.drop mv.length)=inv)->Aq inv mv.length->F71 mv pt lk rows inv →
   (∀z H',aF H H'->p5 K H H' C z (Fn inv mv rows mv.length) (J7 inv pt) (lk.map λxs=>rows.map λr=>eh r xs)->Q (.ref z) H')->AM K C vs H Q E9
inductive CO (K:FG9) (vs:List V) (H:Hp) (Q:VK) (E9:XK):Prop
 | mk (p:Addr) (n:Nat) (H0:Hp) (R:LR9) (ps:List Nat):vs=[.ref p,.int n]->bg K H0 H p R->R.length<=100->n<=100->(∃rows,bB rows n R ps)->(∀r H',H r=none->aF H H'->bg K H H' r ((gP ps n).map λa=>j8 n ((a:Nat):Int))->Q (.ref r) H')->CO K vs H Q E9
inductive CM (K:FG9) (C:Addr) (vs:List V) (H:Hp) (Q:VK) (E9:XK):Prop
 | mk (x:Addr) (a c:Nat) (H0:Hp) (mv pt lk:LR9):vs=[.ref x]->p5 K H0 H C x mv pt lk->kC mv pt lk->oF mv pt a c->(∀t l R ps H',bB (kry mv pt mv.length) mv.length R ps->H l=none->aF H H'->H' t=some (.tup [.ref l,.int ps.length])->bg K H H' l (pI R ps mv.length)->Q (.ref t) H')->CM K C vs H Q E9
inductive CL (K:FG9) (vs:List V) (H:Hp) (Q:VK) (E9:XK):Prop
 | mk (n a:Nat):vs=[.int n,.int a]->n<=100->(∀r H',H r=none->aF H H'->dg K H' r (j8 n ((a:Nat):Int))->Q (.ref r) H')->CL K vs H Q E9
inductive AO (K:FG9) (C:Addr) (vs:List V) (H:Hp) (Q:VK) (E9:XK):Prop
 | mk (x:Addr) (r:Nat) (H0:Hp) (mv pt lk:LR9):vs=[.ref x,.int r]->p5 K H0 H C x mv pt lk->kC mv pt lk->r<=mv.length->(∀xs∈mv.drop r,xs.take r=List.replicate r 0)->(∀xs∈pt,xs.drop r=List.replicate (mv.length - r) 0)->(∀H',aF H H'->Q (.bl true) H')->AO K C vs H Q E9
end L2
open L2
local macro_rules | `(tactic| walk_at "hl") => `(tactic| first | (show _ ≤ sizeLine; with_unfolding_all decide) | (with_unfolding_all exact (by decide)))
local macro_rules | `(tactic| walk_at "sq") => `(tactic| first | with_reducible assumption | with_reducible exact jG.of (by assumption) | with_reducible exact bD.of (by assumption) | with_reducible exact jG.of aH | with_reducible exact bD.of aH | assumption)
local macro_rules | `(tactic| walk_at "sc") => `(tactic| first | (with_reducible show (0 : Int) < _; decide) | with_reducible exact HU (by decide) (by decide) | with_reducible exact Dt (by decide) (by decide) | with_reducible exact cpow_of (by decide) (by decide) (by decide))
local macro_rules | `(tactic| walk_at "rd") => `(tactic| first
  | with_reducible refine Jp ?_
  | with_reducible refine GK ?_
  | with_reducible refine JC ?_
  | with_reducible refine ER ?_
  | ((with_reducible refine' Jn ?hx1 ?_); (case hx1 => with_unfolding_all rfl))
  | with_reducible refine L5 ?_
  | with_reducible refine K6 ?_
  | with_reducible refine K9 ?_
  | with_reducible refine K2 ?_
  | with_reducible refine L6 ?_
  | with_reducible refine JB ?_
  | with_reducible refine Ju ?_
  | with_reducible refine rd_eqS ?_
  | with_reducible refine rd_neS ?_
  | with_reducible refine rd_eqB ?_
  | with_reducible refine rd_neB ?_
  | with_reducible refine GO ?_
  | with_reducible refine BQ ?_
  | with_reducible refine JA ?_
  | with_reducible refine GG ?_
  | with_reducible refine rd_meth ?_
  | with_reducible refine GN ?_
  | with_reducible refine EO ?_
  | with_reducible refine GD ?_
  | with_reducible refine K3 ?_
  | with_reducible refine Jq ?_
  | with_reducible refine rd_retN ?_
  | with_reducible refine Jx ?_
  | with_reducible refine JD ?_
  | with_reducible refine K5 ?_
  | with_reducible refine Js ?_
  | with_reducible refine G9 ?_
  | with_reducible refine rd_orV ?_
  | with_reducible refine GI ?_
  | with_reducible refine Jy ?_
  | with_reducible refine Jm ?_
  | with_reducible refine Fj ?_
  | with_reducible refine Lm ?_
  | with_reducible refine Ln ?_
  | with_reducible refine Lo ?_
  | with_reducible refine Iy ?_
  | with_reducible refine Jt ?_
  | with_reducible refine GX ?_
  | with_reducible refine Jo ?_
  | with_reducible refine Jv ?_
  | with_reducible refine GZ ?_
  | with_reducible refine K7 ?_
  | with_reducible refine GW ?_
  | with_reducible refine Jr ?_
  | with_reducible refine G7 ?_
  | ((with_reducible refine' rd_aug ?hx1 ?_); (case hx1 => with_unfolding_all rfl))
  | with_reducible refine Jw ?_
  | with_reducible refine GS ?_
  | with_reducible refine ES ?_
  | with_reducible refine GU ?_
  | with_reducible refine K4 ?_
  | with_reducible refine DS ?_
  | with_reducible refine GH ?_
  | with_reducible refine Jz ?_
  | with_reducible refine EN ?_
  | with_reducible refine GQ ?_
  | with_reducible refine EM ?_
  | with_reducible refine EL ?_
  | ((with_reducible refine' GY ?hx1 ?_); (case hx1 => with_unfolding_all rfl))
  | with_reducible refine GC ?_
  | with_reducible refine K8 ?_
  | with_reducible refine rd_bm0 ?_
  | with_reducible refine rd_brk ?_
  | ((with_reducible refine' GR ?hx1 ?hx2 ?_); (case hx1 => walk_at "sq"); (case hx2 => with_unfolding_all rfl))
  | with_reducible refine rd_cont ?_
  | ((with_reducible refine' eK ?hx1 ?_); (case hx1 => walk_at "sc"))
  | ((with_reducible refine' BR ?hx1 ?hx2 ?_); (case hx1 => walk_at "sq"); (case hx2 => with_unfolding_all rfl))
  | ((with_reducible refine' cg ?hx1 ?hx2 ?_); (case hx1 => walk_at "sq"); (case hx2 => with_unfolding_all rfl))
  | ((with_reducible refine' GV ?hx1 ?hx2 ?_); (case hx1 => walk_at "sq"); (case hx2 => with_unfolding_all rfl))
  | ((with_reducible refine' dY ?hx1 ?hx2 ?hx3 ?_); (case hx1 => with_reducible first | assumption | exact aH); (case hx2 => with_unfolding_all rfl); (case hx3 => with_unfolding_all rfl))
  | with_reducible refine ⟨_, rfl, ?_⟩
  | with_reducible refine ⟨_, _, rfl, ?_⟩)
local macro_rules | `(tactic| walk_at "w") => `(tactic| repeat walk_at "rd")
local macro_rules | `(tactic| walk_at "d") => `(tactic| exact ⟨rfl,rfl,rfl,by decide +kernel,rfl,by decide +kernel,by decide +kernel⟩)
namespace Lw
open PySem PySem.Spec PyProof.Rows L2 Nm
local macro_rules | `(tactic| exists $e) => `(tactic| (walk_at "w";refine $e))
set_option maxHeartbeats 4000000
def top (i:Nat):Stmt:=PySem.Challenge.pw_helmsum_k72_steered_first.main.body.getD i (.Pass ⟨0,0,0,0⟩)
abbrev pS:Stmt:=top 53
abbrev m9:Stmt:=top 54
abbrev iY:Stmt:=top 70
abbrev nB:Stmt:=top 72
abbrev pQ:Stmt:=top 55
abbrev pO:Stmt:=top 56
abbrev nk:Stmt:=top 63
abbrev nh:Stmt:=top 58
abbrev sv:Stmt:=top 65
abbrev lF:Stmt:=top 67
abbrev gU:Stmt:=top 73
abbrev kg:Stmt:=top 60
abbrev pP:Stmt:=top 61
abbrev nv:Stmt:=top 66
abbrev lE:Stmt:=top 68
abbrev kf:Stmt:=top 74
abbrev m4:Stmt:=top 45
abbrev pM:Stmt:=top 10
abbrev gR:Stmt:=top 11
abbrev m7:Stmt:=top 13
abbrev va:Stmt:=top 16
abbrev ke:Stmt:=top 46
abbrev df:Stmt:=inClass (top 47) 0
abbrev ki:Stmt:=top 69
abbrev nA:Stmt:=top 75
abbrev ng:Stmt:=top 59
abbrev nC:Stmt:=top 57
abbrev lG:Stmt:=top 64
abbrev nD:Stmt:=top 79
abbrev pR:Stmt:=top 62
abbrev su:Stmt:=top 71
abbrev lH:Stmt:=top 80
abbrev m8:Stmt:=top 81
abbrev nE:Stmt:=top 82
abbrev m6:Stmt:=top 18
abbrev fZ:Stmt:=top 12
abbrev iT:Stmt:=top 17
abbrev lC:Stmt:=top 30
abbrev r8:Stmt:=top 32
abbrev lD:Stmt:=top 31
abbrev zu:Stmt:=top 33
abbrev u0:Stmt:=top 14
abbrev rW:Stmt:=top 34
abbrev rV:Stmt:=top 19
abbrev rZ:Stmt:=top 22
abbrev k6:Stmt:=top 38
abbrev ka:Stmt:=top 39
abbrev kZ:Stmt:=top 40
abbrev pL:Stmt:=top 20
abbrev iS:Stmt:=top 27
abbrev rX:Stmt:=top 28
abbrev kd:Stmt:=top 29
abbrev lh:Stmt:=top 50
abbrev iQ:Stmt:=top 51
abbrev gV:Stmt:=top 76
abbrev kh:Stmt:=top 77
abbrev jq:Stmt:=top 78
abbrev kj:Stmt:=top 83
abbrev kb:Stmt:=top 23
abbrev m5:Stmt:=top 25
abbrev rY:Stmt:=top 36
abbrev k9:Stmt:=top 24
abbrev pN:Stmt:=top 49
abbrev EH:Stmt:=top 84
set_option genInjectivity false in
set_option genSizeOf false in
structure Ads where
 wL:Addr
 v9:FuncData
 tV:Addr
 tD:FuncData
 rD:Addr
 qW:FuncData
 t8:Addr
 tJ:FuncData
 wH:Addr
 v7:FuncData
 wF:Addr
 vZ:FuncData
 tY:Addr
 tG:FuncData
 tX:Addr
 tF:FuncData
 yM:Addr
 yv:FuncData
 rF:Addr
 qY:FuncData
 kO:Addr
 kL:FuncData
 o9:Addr
 oV:FuncData
 wG:Addr
 v5:FuncData
 tZ:Addr
 tH:FuncData
 rE:Addr
 qX:FuncData
 o8:Addr
 oU:FuncData
 tQ:Addr
 tm:FuncData
 wC:Addr
 vX:FuncData
 kN:Addr
 kK:FuncData
 tT:Addr
 tx:FuncData
 Bv:Addr
 Bn:FuncData
 o7:Addr
 oT:FuncData
 gK:Addr
 gI:FuncData
 ph:Addr
 oX:FuncData
 t7:Addr
 tI:FuncData
 tW:Addr
 tE:FuncData
 t9:Addr
 tK:FuncData
 rG:Addr
 qZ:FuncData
 uc:Addr
 tL:FuncData
 wI:Addr
 v8:FuncData
 yL:Addr
 yu:FuncData
 rH:Addr
 rf:FuncData
 tU:Addr
 tz:FuncData
 ue:Addr
 tO:FuncData
 tS:Addr
 tw:FuncData
 jX:Addr
 jW:FuncData
 mM:Addr
 mJ:FuncData
 rB:Addr
 qU:FuncData
 yK:Addr
 yt:FuncData
 rC:Addr
 qV:FuncData
 Dx:Addr
 Dq:FuncData
 Bu:Addr
 Bm:FuncData
 yG:Addr
 yo:FuncData
 yF:Addr
 yn:FuncData
 yJ:Addr
 yr:FuncData
 rk:Addr
 qR:FuncData
 o3:Addr
 oQ:FuncData
 rj:Addr
 qQ:FuncData
 wq:Addr
 vW:FuncData
 mL:Addr
 mI:FuncData
 yH:Addr
 yp:FuncData
 o6:Addr
 oS:FuncData
 rA:Addr
 qT:FuncData
 mK:Addr
 mH:FuncData
 kR:Addr
 kM:FuncData
 pe:Addr
 oW:FuncData
 nZ:Addr
 nV:FuncData
 pj:Addr
 oY:FuncData
 o5:Addr
 oR:FuncData
 tR:Addr
 tu:FuncData
 yI:Addr
 yq:FuncData
 rz:Addr
 qS:FuncData
 wD:Addr
 vY:FuncData
 IS:Addr
 IQ:FuncData
 a_NOUGHT:Addr
 a_ONE:Addr
 t_MOST_STATES:Tok
 t_MOST_PUTS:Tok
 t_MOST_LOOKS:Tok
 a_System:Addr
structure Txt (K:W.Frag) (mg:Str->Option Value) (Z:Ads):Prop where
 nO:Df K mg "_law_bag" pS ["_law_script"] Z.wL Z.v9
 aW:Df K mg "_law_take" m9 ["_law_bag_here","_law_many"] Z.tV Z.tD
 ky:Df K mg "_law_sizes" iY ["_law_bag_here"] Z.rD Z.qW
 gG:Df K mg "_law_line" nB ["_law_bag_here","_law_n"] Z.t8 Z.tJ
 dt:Df K mg "_law_low" pQ ["_law_top","_law_bottom"] Z.wH Z.v7
 fO:Df K mg "_law_sum" pO ["_law_one","_law_other"] Z.wF Z.vZ
 md:Df K mg "_law_plus" nk ["_law_one","_law_other"] Z.tY Z.tG
 fh:Df K mg "_law_prod" nh ["_law_one","_law_other"] Z.tX Z.tF
 ia:Df K mg "_law_by" sv ["_law_by_here","_law_row_here"] Z.yM Z.yv
 iq:Df K mg "_law_mixed" lF ["_law_bag_here","_law_move_here","_law_put","_law_look"] Z.rF Z.qY
 gF:Df K mg "_law_two_lines" gU ["_law_bag_here"] Z.kO Z.kL
 jB:Df K mg "_law_number" kg ["_law_bag_here","_law_wide"] Z.o9 Z.oV
 iH:Df K mg "_law_row" pP ["_law_bag_here","_law_many","_law_wide"] Z.wG Z.v5
 me:Df K mg "_law_move" nv ["_law_bag_here","_law_n","_law_way","_law_first","_law_wide"] Z.tZ Z.tH
 kz:Df K mg "_law_parts" lE ["_law_bag_here","_law_n","_law_ins","_law_outs","_law_wide"] Z.rE Z.qX
 jA:Df K mg "_law_system" kf ["_law_bag_here"] Z.o8 Z.oU
 gC:Df K mg "want_list" m4 ["thing","at","most"] Z.tQ Z.tm
 jT:Df K mg "is_whole" pM ["thing"] Z.wC Z.vX
 dN:Df K mg "common_divisor" gR ["one","other"] Z.kN Z.kK
 l8:Df K mg "is_number" m7 ["thing"] Z.tT Z.tx
 sH:Df K mg "is_row" va ["thing","many"] Z.Bv Z.Bn
 eX:Df K mg "copied_rows" ke ["things","wide"] Z.o7 Z.oT
 gJ:Binds K Z.gI ["self","move","put","look"] []
 jZ:Ih K "__init__" "System.__init__" df Z.gK Z.gI
 eY:Df K mg "_law_copied" ki ["_law_grid"] Z.ph Z.oX
 mh:Df K mg "_law_made" nA ["_law_parts_here"] Z.t7 Z.tI
 ma:Df K mg "_law_quot" ng ["_law_one","_law_other"] Z.tW Z.tE
 mi:Df K mg "_law_less" nC ["_law_one","_law_other"] Z.t9 Z.tK
 ir:Df K mg "_law_minus" lG ["_law_one","_law_other"] Z.rG Z.qZ
 mo:Df K mg "_law_lean" nD ["_law_rows","_law_wide"] Z.uc Z.tL
 nN:Df K mg "_law_dot" pR ["_law_one","_law_other"] Z.wI Z.v8
 p3:Df K mg "_law_on" su ["_law_grid","_law_row_here"] Z.yL Z.yu
 kB:Df K mg "_law_added" lH ["_law_parts_here","_law_steps"] Z.rH Z.rf
 l9:Df K mg "_law_unit" m8 ["_law_n","_law_at"] Z.tU Z.tz
 my:Df K mg "_law_free" nE ["_law_rows","_law_n"] Z.ue Z.tO
 gD:Df K mg "tops_over" m6 ["row","bottom"] Z.tS Z.tw
 fI:Df K mg "common_multiple" fZ ["wholes"] Z.jX Z.jW
 ee:Df K mg "common_bottom" iT ["row"] Z.mM Z.mJ
 kv:Df K mg "first_with" lC ["lines","begin","place"] Z.rB Z.qU
 pZ:Df K mg "cleared" r8 ["lines","at","place","before"] Z.yK Z.yt
 kx:Df K mg "brought_up" lD ["lines","at","to"] Z.rC Z.qV
 vI:Df K mg "swept" zu ["rows","wide"] Z.Dx Z.Dq
 ox:Df K mg "lowest" u0 ["top","bottom"] Z.Bu Z.Bm
 l5:Df K mg "reduced" rW ["rows","wide"] Z.yG Z.yo
 pX:Df K mg "row_dot" rV ["one","other"] Z.yF Z.yn
 hZ:Df K mg "grid_on" rZ ["grid","row"] Z.yJ Z.yr
 ks:Df K mg "moved_rows" k6 ["system","rows"] Z.rk Z.qR
 jy:Df K mg "reach_grown" ka ["system","steps"] Z.o3 Z.oQ
 kq:Df K mg "reach_rows" kZ ["system","steps"] Z.rj Z.qQ
 jS:Df K mg "unit_row" pL ["many","at"] Z.wq Z.vW
 hJ:Df K mg "leading_place" iS ["row"] Z.mL Z.mI
 l7:Df K mg "leading" rX ["rows"] Z.yH Z.yp
 jz:Df K mg "free_places" kd ["rows","wide"] Z.o6 Z.oS
 ku:Df K mg "free_units" lh ["rows","wide"] Z.rA Z.qT
 fg:Df K mg "steered_first" iQ ["system"] Z.mK Z.mH
 gH:Df K mg "_law_is_number" gV ["_law_thing"] Z.kR Z.kM
 jC:Df K mg "_law_is_row" kh ["_law_thing","_law_many"] Z.pe Z.oW
 iW:Df K mg "_law_is_grid" jq ["_law_thing","_law_many","_law_wide"] Z.nZ Z.nV
 jD:Df K mg "_law_blocks" kj ["_law_other","_law_many"] Z.pj Z.oY
 gE:Df K mg "grid_turned" kb ["grid","wide"] Z.o5 Z.oR
 lZ:Df K mg "unit_grid" m5 ["many"] Z.tR Z.tu
 pY:Df K mg "inverse" rY ["grid"] Z.yI Z.yq
 ip:Df K mg "grid_times" k9 ["one","other","wide"] Z.rz Z.qS
 nM:Df K mg "in_basis" pN ["system","rows"] Z.wD Z.vY
 IW:Ih K "law" "law" EH Z.IS Z.IQ
 abs:mg "abs"=none
 len:mg "len"=none
 min:mg "min"=none
 int:mg "int"=none
 range:mg "range"=none
 isinstance:mg "isinstance"=none
 list:mg "list"=none
 bool:mg "bool"=none
 tuple:mg "tuple"=none
 all:mg "all"=none
 enumerate:mg "enumerate"=none
 zip:mg "zip"=none
 sum:mg "sum"=none
 mg_NOUGHT:mg "NOUGHT"=some (.ref Z.a_NOUGHT)
 sq_NOUGHT:∀H,jG K H Z.a_NOUGHT [.int 0,.int 1]
 mg_ONE:mg "ONE"=some (.ref Z.a_ONE)
 sq_ONE:∀H,jG K H Z.a_ONE [.int 1,.int 1]
 mg_MOST_STATES:mg "MOST_STATES"=some (.int 8 Z.t_MOST_STATES)
 mg_MOST_PUTS:mg "MOST_PUTS"=some (.int 4 Z.t_MOST_PUTS)
 mg_MOST_LOOKS:mg "MOST_LOOKS"=some (.int 4 Z.t_MOST_LOOKS)
 mg_System:mg "System"=some (.ref Z.a_System)
 cl_System:F1 K Z.a_System
 na_move:gL K Z.a_System "move"
 na_states:gL K Z.a_System "states"
 na_put:gL K Z.a_System "put"
 na_ins:gL K Z.a_System "ins"
 na_look:gL K Z.a_System "look"
 na_outs:gL K Z.a_System "outs"
 mk_System:Mk K Z.a_System Z.gK
section
variable {P:Program} {w:World} {K:W.Frag} {mg:Str->Option Value} {base:Heap} {Z:Ads}
theorem AV:aU ["_law_script"] ["_law_script"] (aJ pS):=by walk_at "d"
theorem A5 (T:Txt K mg Z):cz P w K mg base fb 1 Z.wL Z.v9 ["_law_script"] (EG K):=by
 refine T.nO.F.ok AV (λvs H Q E h=>?_) (λcdv A outer s H vs Q E hr h=>?_)
 ·obtain ⟨a,ns,rfl,_⟩:=h;rfl
 ·obtain ⟨a,ns,rfl,hS,hlen,k⟩:=h;refine ⟨_,(az (aR (dJ (ae ak (ae ak (ae ak (ae (bJ ["_law_cell"] [] [] (bV (kH za (pv 0) oo (oj ak))) (λ_=>(aK (i:=0) (show ND9 ["_law_cell"] by decide +kernel))) (λ_=>bT) (λ_=>(bA wg (by rfl) T.abs PyProof.Rows.boot_abs (ae (pv 0) ai)))) ai))))))),?_⟩;refine aN (σ:=[some (.ref a)]) rfl ?_;exists ⟨a,_,rfl,hS,λl hl=>?_⟩;have hcl:(oE (ns.map V.int) none (some 63)).length<=63:=aj (tP _ _ _) (by simpa using hlen);refine ⟨l,rfl,⟨_,bD.of aH⟩,?_⟩;refine cW (K:=K) (a:=l) (xs:=oE (ns.map V.int) none (some 63)) (λi ys H'=>H'=upd H l (.lst (oE (ns.map V.int) none (some 63)))/\∃cs:List Int,ys=cs.map V.int/\∀x∈cs,0<=x) (aj hcl (by decide)) ⟨rfl,[],rfl,λ_ z=>nomatch z⟩ (λi ys H' _ ⟨e,_⟩=>by subst e;exact bD.of aH) ?_ ?_
  ·rintro i x ys H' hx hi ⟨rfl,cs,rfl,hcs⟩
   obtain ⟨z,rfl⟩:∃z,x=V.int z:=by
    have hm:x∈ns.map V.int:=mP (cL (av hx));obtain ⟨z,_,e⟩:=ay.mp hm;exact ⟨z,e.symm⟩
   exists ⟨rfl,cs++[if z < 0 then -z else z],by simp,λx hx=>?_⟩;rcases ax.mp hx with hx | hx
   ·exact hcs x hx
   ·have e:x=if z < 0 then -z else z:=by simpa using hx
    subst e
    split <;> lia
  ·rintro ys H' hy ⟨rfl,cs,rfl,hcs⟩ p hp;exists ⟨by show 4<=sizeLine;decide,λb hb=>?_⟩;have n1:b≠p:=λz=>by rw[z,aH] at hb;cases hb
   have hb1:(upd H l (.lst (oE (ns.map V.int) none (some 63)))) b=none:=by rw[a7 n1] at hb;exact hb
   have s1:aF H (upd H l (.lst (oE (ns.map V.int) none (some 63)))):=aF.new hl;refine k b _ (s1.free hb1) ⟨p,0,1234567891,0,cs,aH,by rw[a7 n1.symm];exact aH,by decide,by decide,by lia,hcs⟩ ((s1.trans (aF.new hp)).trans (aF.new hb))
theorem eC:aU ["_law_bag_here","_law_many","_law_more","_law_cell","_law_value","_law_first","_law_second"] ["_law_bag_here","_law_many"] (aJ m9):=by walk_at "d"
theorem br (T:Txt K mg Z):cz P w K mg base fb 1 Z.tV Z.tD ["_law_bag_here","_law_many"] Gv:=by
 refine T.aW.F.ok eC (λvs H Q E h=>?_) (λcdv A outer s H vs Q E hr h=>?_)
 ·obtain ⟨p,n,rfl,_⟩:=h;rfl
 ·obtain ⟨p,n,rfl,⟨q,a,b,c,cs,hp,hq,ha,hc,hcl,hcs⟩,hn,hn2,k⟩:=h;have nqp:q≠p:=Eg hp hq
  refine ⟨_,(fN (cG (a8 d9 (ba bM (pv 0) ak) ak (bp _)) (au (aX (i:=2) eC.nd rfl (Or.inl rfl) ak)
   (fN (cG (a8 oM (ba bM (pv 0) ak) (bA a9 (by rfl) T.len aT (ae (ba bM (pv 0) ak) ai)) (bp _)) (au (aX (i:=3) eC.nd rfl (Or.inl rfl) (ba bM (ba bM (pv 0) ak) (ba bM (pv 0) ak)))
   (au (Hu (pv 0) ak Fs ak J6 set_list)
   (au (cG (a8 xV (pv 3) ak (bp _)) (az (eL (pv 3) (fu (pv 0) ak set_list))) bL)
   (az (aX (i:=2) eC.nd rfl (Or.inl rfl) (bx eU (bx kn (pv 3) ak) ak)))))) bL)
   (az (eL (bx kn (bx eU (bx cK (ba bM (pv 0) ak) ak) (pv 2)) ak) (fu (pv 0) ak set_list))))) bL)
   (au (cG (a8 vw (ba bM (pv 0) ak) ak (bp _)) (au (aX (i:=4) eC.nd rfl (Or.inl rfl) (bx kn (ba bM (pv 0) ak) (pv 1)))
   (au (eL (bx gs (ba bM (pv 0) ak) (pv 1)) (fu (pv 0) ak set_list))
   (az (aR (pv 4))))) bL)
   (au (aX (i:=5) eC.nd rfl (Or.inl rfl) (bx kn (bx cK (ba bM (pv 0) ak) ak) ak))
   (au (aX (i:=6) eC.nd rfl (Or.inl rfl) (bx kn (bx cK (pv 5) ak) ak))
   (au (cG (a8 vw (pv 1) ak (bp _)) (az (aR (bx kn (bx eU (bx cK (pv 6) ak) (pv 5)) (pv 1)))) bL)
   (az (aR (bx kn (bx gs (pv 6) ak) (pv 1))))))))),?_⟩
  refine aN (σ:=[some (.ref p),some (.int n),none,none,none,none,none]) rfl ?_;refine ⟨λσ' H'=>∃(x y:Option V) (a' b' c':Int),σ'=[some (.ref p),some (.int n),x,y,none,none,none]/\H' p=some (.lst [.int a',.int b',.int c',.ref q])/\0<=a'/\0<=c'/\c'<=cs.length/\cF p H H',?_,?_⟩
  ·exists fK (λh0=>?_) (λh0=>?_)
   ·exists ⟨λσ' H'=>∃(m:Int) (y:Option V) (a' c':Int),σ'=[some (.ref p),some (.int n),some (.int m),y,none,none,none]/\H' p=some (.lst [.int a',.int b,.int c',.ref q])/\0<=a'/\0<=c'/\c'<=cs.length/\cF p H H',?_,?_⟩
    ·exists ⟨_,_,rfl,.inl (bD.of hq),?_⟩;exists fK (λh1=>?_) (λh1=>?_)
     ·have h1':c < cs.length:=by simpa using of_decide_eq_true h1
      obtain ⟨z,hz⟩:∃z,cs[c.toNat]?=some z:=⟨_,af (by lia)⟩;have hz0:0<=z:=hcs z (av hz);exists cg (bD.of hq) (v:=.int z) ?_ ?_
      ·have:=eG (xs:=cs.map V.int) (j:=c.toNat) (v:=.int z) (by rw[aD,hz];rfl);rwa [Int.toNat_of_nonneg hc] at this
      exists fK (λh2=>?_) (λh2=>?_)
      ·exists ⟨_,_,z,c+1,rfl,aH,hz0,by lia,by lia,(cF.set hp).trans (cF.set aH)⟩
      ·exists ⟨_,_,a,c+1,rfl,aH,ha,by lia,by lia,cF.set hp⟩
     ·exists ⟨_,_,a,c,rfl,hp,ha,hc,hcl,cF.refl _⟩
    ·rintro σ' H' ⟨m,y,a',c',rfl,hp',ha',hc',hcl',u'⟩;exists ⟨_,_,a',_,c',rfl,aH,ha',hc',hcl',u'.trans (cF.set hp')⟩
   ·exists ⟨_,_,a,b,c,rfl,hp,ha,hc,hcl,cF.refl _⟩
  ·rintro σ' H' ⟨x,y,a',b',c',rfl,hp',ha',hc',hcl',u'⟩;have hq':H' q=some (.lst (cs.map V.int)):=u'.1 q _ hq nqp
   have sn:Sz 8999 n:=by
    show n.natAbs < 2^8999
    exact bf (show n.natAbs < 2^64 by lia) (ar (by decide) (by decide))
   exists fK (λh0=>?_) (λh0=>?_)
   ·exists eK (show (0:Int) < n from hn) ?_;exists eK (show mN _ _ from ⟨by lia,sn⟩) ?_;exists k _ _ (jc _ (by lia)) (fF _ hn) ⟨q,_,b',c',cs,aH,by rw[a7 nqp];exact hq',?_,hc',hcl',hcs⟩ (u'.trans (cF.set hp'));rw[b9 _ (by lia)];exact Int.ediv_nonneg ha' (by lia)
   ·exists fK (λh1=>?_) (λh1=>?_)
    ·exists eK (show (0:Int) < n from hn) ?_;exact k _ _ (jc _ (by lia)) (fF _ hn) ⟨q,a',b',c',cs,hp',hq',ha',hc',hcl',hcs⟩ u'
    ·exists eK (show mN _ _ from ⟨by decide,by show (3:Nat) < 2^8999;exact bf (show 3 < 2^2 by decide) (ar (by decide) (by decide))⟩) ?_;exists eK (show (0:Int) < n from hn) ?_;exact k _ _ (jc _ (by lia)) (fF _ hn) ⟨q,a',b',c',cs,hp',hq',ha',hc',hcl',hcs⟩ u'
theorem xy:∃x1 x2 x3 x4 x5 x6 x7 x8 x9 x10 x11 x12 x13 x14 x15 x16:Expr,x1=(Expr.Constant (Const.int 0) 0 ⟨293,16,293,17⟩)/\x2=(Expr.Constant (Const.int 1) 0 ⟨293,19,293,20⟩)/\x3=(Expr.Constant (Const.int 1) 0 ⟨293,22,293,23⟩)/\x4=(Expr.Constant (Const.int 1) 0 ⟨293,25,293,26⟩)/\x5=(Expr.Constant (Const.int 2) 0 ⟨293,28,293,29⟩)/\x6=(Expr.Constant (Const.int 2) 0 ⟨293,31,293,32⟩)/\x7=(Expr.Constant (Const.int 3) 0 ⟨293,34,293,35⟩)/\x8=(Expr.Constant (Const.int 4) 0 ⟨293,37,293,38⟩)/\x9=(Expr.Constant (Const.int 0) 0 ⟨294,17,294,18⟩)/\x10=(Expr.Constant (Const.int 1) 0 ⟨294,20,294,21⟩)/\x11=(Expr.Constant (Const.int 1) 0 ⟨294,23,294,24⟩)/\x12=(Expr.Constant (Const.int 1) 0 ⟨294,26,294,27⟩)/\x13=(Expr.Constant (Const.int 2) 0 ⟨294,29,294,30⟩)/\x14=(Expr.Constant (Const.int 2) 0 ⟨294,32,294,33⟩)/\x15=(Expr.Constant (Const.int 3) 0 ⟨294,35,294,36⟩)/\x16=(Expr.Constant (Const.int 4) 0 ⟨294,38,294,39⟩)/\iu iY=[ (Stmt.Assign (targets:=[(Expr.Name "_law_n" ⟨290,4,290,10⟩)]) (value:=(Expr.Call (func:=(Expr.Name "_law_take" ⟨290,13,290,22⟩)) (args:=[ (Expr.Name "_law_bag_here" ⟨290,23,290,36⟩),(Expr.Constant (Const.int 5) 0 ⟨290,38,290,39⟩)]) (keywords:=[]) (pos:=⟨290,13,290,40⟩))) (pos:=⟨290,4,290,40⟩)),(Stmt.If (test:=(Expr.Compare (left:=(Expr.Call (func:=(Expr.Name "_law_take" ⟨291,7,291,16⟩)) (args:=[ (Expr.Name "_law_bag_here" ⟨291,17,291,30⟩),(Expr.Constant (Const.int 8) 0 ⟨291,32,291,33⟩)]) (keywords:=[]) (pos:=⟨291,7,291,34⟩))) (ops:=[PySem.CmpOp.Eq]) (comparators:=[(Expr.Constant (Const.int 7) 0 ⟨291,38,291,39⟩)]) (pos:=⟨291,7,291,39⟩))) (body:=[ (Stmt.Assign (targets:=[(Expr.Name "_law_n" ⟨292,8,292,14⟩)]) (value:=(Expr.Constant (Const.int 5) 0 ⟨292,17,292,18⟩)) (pos:=⟨292,8,292,18⟩))]) (orelse:=[]) (pos:=⟨291,4,292,18⟩)),(Stmt.Assign (targets:=[(Expr.Name "_law_ins" ⟨293,4,293,12⟩)]) (value:=(Expr.Subscript (value:=(Expr.List (elts:=[x1,x2,x3,x4,x5,x6,x7,x8]) (pos:=⟨293,15,293,39⟩))) (slice:=(Expr.Call (func:=(Expr.Name "_law_take" ⟨293,40,293,49⟩)) (args:=[ (Expr.Name "_law_bag_here" ⟨293,50,293,63⟩),(Expr.Constant (Const.int 8) 0 ⟨293,65,293,66⟩)]) (keywords:=[]) (pos:=⟨293,40,293,67⟩))) (pos:=⟨293,15,293,68⟩))) (pos:=⟨293,4,293,68⟩)),(Stmt.Assign (targets:=[(Expr.Name "_law_outs" ⟨294,4,294,13⟩)]) (value:=(Expr.Subscript (value:=(Expr.List (elts:=[x9,x10,x11,x12,x13,x14,x15,x16]) (pos:=⟨294,16,294,40⟩))) (slice:=(Expr.Call (func:=(Expr.Name "_law_take" ⟨294,41,294,50⟩)) (args:=[ (Expr.Name "_law_bag_here" ⟨294,51,294,64⟩),(Expr.Constant (Const.int 8) 0 ⟨294,66,294,67⟩)]) (keywords:=[]) (pos:=⟨294,41,294,68⟩))) (pos:=⟨294,16,294,69⟩))) (pos:=⟨294,4,294,69⟩)),(Stmt.If (test:=(Expr.Compare (left:=(Expr.Name "_law_n" ⟨295,7,295,13⟩)) (ops:=[PySem.CmpOp.Eq]) (comparators:=[(Expr.Constant (Const.int 5) 0 ⟨295,17,295,18⟩)]) (pos:=⟨295,7,295,18⟩))) (body:=[ (Stmt.Assign (targets:=[ (Expr.Tuple (elts:=[(Expr.Name "_law_ins" ⟨296,8,296,16⟩),(Expr.Name "_law_outs" ⟨296,18,296,27⟩)]) (k:=0) (pos:=⟨296,8,296,27⟩))]) (value:=(Expr.Tuple (elts:=[ (Expr.Call (func:=(Expr.Name "min" ⟨296,31,296,34⟩)) (args:=[ (Expr.Name "_law_ins" ⟨296,35,296,43⟩),(Expr.Constant (Const.int 2) 0 ⟨296,45,296,46⟩)]) (keywords:=[]) (pos:=⟨296,31,296,47⟩)),(Expr.Call (func:=(Expr.Name "min" ⟨296,49,296,52⟩)) (args:=[ (Expr.Name "_law_outs" ⟨296,53,296,62⟩),(Expr.Constant (Const.int 2) 0 ⟨296,64,296,65⟩)]) (keywords:=[]) (pos:=⟨296,49,296,66⟩))]) (k:=0) (pos:=⟨296,30,296,67⟩))) (pos:=⟨296,8,296,67⟩))]) (orelse:=[]) (pos:=⟨295,4,296,67⟩)),(Stmt.Assign (targets:=[(Expr.Name "_law_wide" ⟨297,4,297,13⟩)]) (value:=(Expr.Subscript (value:=(Expr.List (elts:=[ (Expr.Constant (Const.int 4) 0 ⟨297,17,297,18⟩),(Expr.Constant (Const.int 4) 0 ⟨297,20,297,21⟩),(Expr.Constant (Const.int 9) 0 ⟨297,23,297,24⟩),(Expr.Constant (Const.int 1000000) 0 ⟨297,26,297,33⟩)]) (pos:=⟨297,16,297,34⟩))) (slice:=(Expr.Call (func:=(Expr.Name "_law_take" ⟨297,35,297,44⟩)) (args:=[ (Expr.Name "_law_bag_here" ⟨297,45,297,58⟩),(Expr.Constant (Const.int 4) 0 ⟨297,60,297,61⟩)]) (keywords:=[]) (pos:=⟨297,35,297,62⟩))) (pos:=⟨297,16,297,63⟩))) (pos:=⟨297,4,297,63⟩)),(Stmt.If (test:=(Expr.Compare (left:=(Expr.Name "_law_wide" ⟨298,7,298,16⟩)) (ops:=[PySem.CmpOp.Gt]) (comparators:=[(Expr.Constant (Const.int 9) 0 ⟨298,19,298,20⟩)]) (pos:=⟨298,7,298,20⟩))) (body:=[ (Stmt.Assign (targets:=[(Expr.Name "_law_n" ⟨299,8,299,14⟩)]) (value:=(Expr.Call (func:=(Expr.Name "min" ⟨299,17,299,20⟩)) (args:=[ (Expr.Name "_law_n" ⟨299,21,299,27⟩),(Expr.Constant (Const.int 2) 0 ⟨299,29,299,30⟩)]) (keywords:=[]) (pos:=⟨299,17,299,31⟩))) (pos:=⟨299,8,299,31⟩))]) (orelse:=[]) (pos:=⟨298,4,299,31⟩)),(Stmt.Return (value:=(some (Expr.Tuple (elts:=[ (Expr.Name "_law_n" ⟨300,12,300,18⟩),(Expr.Name "_law_ins" ⟨300,20,300,28⟩),(Expr.Name "_law_outs" ⟨300,30,300,39⟩),(Expr.Name "_law_wide" ⟨300,41,300,50⟩)]) (k:=0) (pos:=⟨300,11,300,51⟩)))) (pos:=⟨300,4,300,51⟩))]:=⟨_,_,_,_,_,_,_,_,_,_,_,_,_,_,_,_,rfl,rfl,rfl,rfl,rfl,rfl,rfl,rfl,rfl,rfl,rfl,rfl,rfl,rfl,rfl,rfl,by with_unfolding_all rfl⟩
theorem dr:aU ["_law_bag_here","_law_n","_law_ins","_law_outs","_law_wide"] ["_law_bag_here"] (aJ iY):=by walk_at "d"
theorem xu (T:Txt K mg Z):cz P w K mg base fb 2 Z.rD Z.qW ["_law_bag_here"] DL:=by
 refine T.ky.F.ok dr (λvs H Q E h=>?_) (λcdv A outer s H vs Q E hr h=>?_)
 ·obtain ⟨b,rfl,_⟩:=h;rfl
 ·obtain ⟨b,rfl,hB,k⟩:=h;obtain ⟨x1,x2,x3,x4,x5,x6,x7,x8,x9,x10,x11,x12,x13,x14,x15,x16,hx1,hx2,hx3,hx4,hx5,hx6,hx7,hx8,hx9,hx10,hx11,hx12,hx13,hx14,hx15,hx16,hbd⟩:=xy;rw[hbd]
  refine ⟨_,(au (aX (i:=1) dr.nd rfl (Or.inl rfl) (cE (br T) hr T.aW (ae (pv 0) (ae ak ai))))
   (fN (cG (a8 d9 (cE (br T) hr T.aW (ae (pv 0) (ae ak ai))) ak (bp _)) (az (aX (i:=1) dr.nd rfl (Or.inl rfl) ak)) bL)
   (au (aX (i:=2) dr.nd rfl (Or.inl rfl) (ba bM (dJ (di hx1 ak (di hx2 ak (di hx3 ak (di hx4 ak (di hx5 ak (di hx6 ak (di hx7 ak (di hx8 ak ai))))))))) (cE (br T) hr T.aW (ae (pv 0) (ae ak ai)))))
   (au (aX (i:=3) dr.nd rfl (Or.inl rfl) (ba bM (dJ (di hx9 ak (di hx10 ak (di hx11 ak (di hx12 ak (di hx13 ak (di hx14 ak (di hx15 ak (di hx16 ak ai))))))))) (cE (br T) hr T.aW (ae (pv 0) (ae ak ai)))))
   (fN (cG (a8 d9 (pv 1) ak (bp _)) (az (ET (i:=2) (j:=3) rfl dr.nd rfl rfl (by decide) rfl rfl (ae (bA (oy rfl) (by rfl) T.min PyProof.Rows.boot_min (ae (pv 2) (ae ak ai))) (ae (bA (oy rfl) (by rfl) T.min PyProof.Rows.boot_min (ae (pv 3) (ae ak ai))) ai)) rfl)) bL)
   (au (aX (i:=4) dr.nd rfl (Or.inl rfl) (ba bM (dJ (ae ak (ae ak (ae ak (ae ak ai))))) (cE (br T) hr T.aW (ae (pv 0) (ae ak ai)))))
   (fN (cG (a8 vw (pv 4) ak (bp _)) (az (aX (i:=1) dr.nd rfl (Or.inl rfl) (bA (oy rfl) (by rfl) T.min PyProof.Rows.boot_min (ae (pv 1) (ae ak ai))))) bL)
   (az (aR (cy (ae (pv 1) (ae (pv 2) (ae (pv 3) (ae (pv 4) ai)))))))))))))),?_⟩
  refine aN (σ:=[some (.ref b),none,none,none,none]) rfl ?_;exists ⟨b,5,rfl,hB,by decide,by decide,λn H1 n0 n1 B1 u1=>?_⟩;obtain ⟨n,rfl⟩:=fo n0;exists ⟨λσ' H'=>(∃n:Nat,σ'=[some (.ref b),some (.int n),none,none,none]/\n<=5)/\fR H' b/\cF b H H',?_,?_⟩
  ·exists ⟨b,8,rfl,B1,by decide,by decide,λv H2 v0 v1 B2 u2=>?_⟩;exists fK (λ_=>?_) (λ_=>?_)
   ·exists ⟨⟨5,rfl,by decide⟩,B2,u1.trans u2⟩
   ·exists ⟨⟨n,rfl,by lia⟩,B2,u1.trans u2⟩
  clear n0 n1 u1 B1;rintro σ' H1 ⟨⟨n,rfl,n5⟩,B1,u1⟩;exists dd λl0 H2 s2 n2 g2=>?_
  exists ⟨b,8,rfl,B1.same s2,by decide,by decide,λv H3 v0 v1 B3 u3=>?_⟩;have g3:=u3.other (λz=>B1.at (by rw[<- z];exact n2)) g2;obtain ⟨x,ex,mx,_⟩:=jF (xs:=[V.int 0,V.int 1,V.int 1,V.int 1,V.int 2,V.int 2,V.int 3,V.int 4]) v0 (by simpa using v1)
  obtain ⟨i,rfl,hi⟩:∃z:Nat,x=.int z/\z<=4:=by
   simp only[aE,aO,or_false] at mx;rcases mx with rfl | rfl | rfl | rfl | rfl | rfl | rfl | rfl
   ·exact ⟨0,rfl,by decide⟩
   ·exact ⟨1,rfl,by decide⟩
   ·exact ⟨1,rfl,by decide⟩
   ·exact ⟨1,rfl,by decide⟩
   ·exact ⟨2,rfl,by decide⟩
   ·exact ⟨2,rfl,by decide⟩
   ·exact ⟨3,rfl,by decide⟩
   ·exact ⟨4,rfl,by decide⟩
  exists cg (bD.of g3) ex ?_;clear ex mx g3 g2;exists dd λl1 H4 s4 n4 g4=>?_
  exists ⟨b,8,rfl,B3.same s4,by decide,by decide,λt H5 t0 t1 B5 u5=>?_⟩;have g5:=u5.other (λz=>B3.at (by rw[<- z];exact n4)) g4;obtain ⟨x,ex,mx,_⟩:=jF (xs:=[V.int 0,V.int 1,V.int 1,V.int 1,V.int 2,V.int 2,V.int 3,V.int 4]) t0 (by simpa using t1)
  obtain ⟨o,rfl,ho⟩:∃z:Nat,x=.int z/\z<=4:=by
   simp only[aE,aO,or_false] at mx;rcases mx with rfl | rfl | rfl | rfl | rfl | rfl | rfl | rfl
   ·exact ⟨0,rfl,by decide⟩
   ·exact ⟨1,rfl,by decide⟩
   ·exact ⟨1,rfl,by decide⟩
   ·exact ⟨1,rfl,by decide⟩
   ·exact ⟨2,rfl,by decide⟩
   ·exact ⟨2,rfl,by decide⟩
   ·exact ⟨3,rfl,by decide⟩
   ·exact ⟨4,rfl,by decide⟩
  exists cg (bD.of g5) ex ?_;clear ex mx g5 g4;have u15:=(((u1.same s2).trans u3).same s4).trans u5;exists ⟨λσ' H'=>(∃i o:Nat,σ'=[some (.ref b),some (.int n),some (.int i),some (.int o),none]/\i<=4/\o<=4/\(n=5->i<=2/\o<=2))/\fR H' b/\cF b H H',?_,?_⟩
  ·exists fK (λh0=>?_) (λh0=>?_)
   ·exists ⟨⟨min i 2,min o 2,?_,by lia,by lia,λ_=>⟨by lia,by lia⟩⟩,B5,u15⟩;have e1:(if (2:Int) < (i:Int) then (2:Int) else (i:Int))=((min i 2:Nat):Int):=by split <;> lia
    have e2:(if (2:Int) < (o:Int) then (2:Int) else (o:Int))=((min o 2:Nat):Int):=by split <;> lia
    rw[<- e1,<- e2];rfl
   ·exists ⟨⟨i,o,rfl,hi,ho,λz=>absurd (decide_eq_true (show (n:Int)=5 by lia)) h0⟩,B5,u15⟩
  clear hi ho u15 B5 u5 u3 u1;rintro σ' H5 ⟨⟨i,o,rfl,hi,ho,h5⟩,B5,u5⟩;exists dd λl2 H6 s6 n6 g6=>?_
  exists ⟨b,4,rfl,B5.same s6,by decide,by decide,λv H7 v0 v1 B7 u7=>?_⟩;have g7:=u7.other (λz=>B5.at (by rw[<- z];exact n6)) g6;obtain ⟨x,ex,mx,_⟩:=jF (xs:=[V.int 4,V.int 4,V.int 9,V.int 1000000]) v0 (by simpa using v1)
  obtain ⟨w,rfl,hw⟩:∃w:Nat,x=.int w/\(w=4\/w=9\/w=1000000):=by
   simp only[aE,aO,or_false] at mx;rcases mx with rfl | rfl | rfl | rfl
   ·exact ⟨4,rfl,.inl rfl⟩
   ·exact ⟨4,rfl,.inl rfl⟩
   ·exact ⟨9,rfl,.inr (.inl rfl)⟩
   ·exact ⟨1000000,rfl,.inr (.inr rfl)⟩
  exists cg (bD.of g7) ex ?_;have u07:=(u5.same s6).trans u7;exists ⟨λσ' H'=>(∃n:Nat,σ'=[some (.ref b),some (.int n),some (.int i),some (.int o),some (.int w)]/\n<=5/\(w=4\/w=9\/(w=1000000/\n<=2))/\(n=5->i<=2/\o<=2))/\fR H' b/\cF b H H',?_,?_⟩
  ·exists fK (λh0=>?_) (λh0=>?_)
   ·exists ⟨⟨min n 2,?_,by lia,by lia,λz=>by lia⟩,B7,u07⟩;have e1:(if (2:Int) < (n:Int) then (2:Int) else (n:Int))=((min n 2:Nat):Int):=by split <;> lia
    rw[<- e1];rfl
   ·exists ⟨⟨n,rfl,n5,?_,h5⟩,B7,u07⟩;rcases hw with z | z | z
    ·exact .inl z
    ·exact .inr (.inl z)
    ·exact absurd (decide_eq_true (show (9:Int) < (w:Int) by lia)) h0
  ·clear h5 n5;rintro σ' H8 ⟨⟨n',rfl,n5,hwn,h5⟩,B8,u8⟩;exists bN λr H9 s9 g9=>?_
   exact k r n' i o w H9 g9 n5 hi ho hwn h5 (B8.same s9) (u8.same s9)
theorem ff:aU ["_law_bag_here","_law_n","_law_move_here","_law_at","_law_put","_law_first","_law_look"] ["_law_bag_here","_law_n"] (aJ nB):=by walk_at "d"
theorem lT (T:Txt K mg Z):cz P w K mg base fb 2 Z.t8 Z.tJ ["_law_bag_here","_law_n"] (AJ K):=by
 refine T.gG.F.ok ff (λvs H Q E h=>?_) (λcdv A outer s H vs Q E hr h=>?_)
 ·obtain ⟨b,n,rfl,_⟩:=h;rfl
 ·obtain ⟨b,n,rfl,hB,n1,n8,k⟩:=h
  refine ⟨_,(au (ik 2 ["_law_i"] ["_law_n"] [1] ff.nd rfl rfl (b6 rfl T.range (ae (pv 1) ai)) (λ_=>(aK (i:=0) (show ND9 ["_law_i","_law_n"] by decide +kernel) rfl (Or.inr rfl) (Or.inl rfl))) (λ_=>bT) (λ_=>(bJ ["_law_j"] ["_law_i"] [0] (b6 rfl T.range (ae (pv 1) ai)) (λ_=>(aK (i:=0) (show ND9 ["_law_j","_law_i"] by decide +kernel))) (λ_=>bT) (λ_=>(cy (ae (d7 jh (by rfl) T.int PyProof.Rows.boot_int (ae (fD d9 (pv 0) (bx eU (pv 1) ak) (bp _)) ai)) (ae ak ai)))))))
   (au (eL (bJ ["_law_j"] ["_law_bag_here"] [0] (b6 rfl T.range (ae (pv 1) ai)) (λ_=>(aK (i:=0) (show ND9 ["_law_j","_law_bag_here"] by decide +kernel))) (λ_=>bT) (λ_=>(cy (ae (bx gY (cE (br T) hr T.aW (ae (pv 1) (ae ak ai))) ak) (ae ak ai))))) (fu (pv 2) (bx gY (pv 1) ak) set_list))
   (au (aX (i:=3) ff.nd rfl (Or.inr rfl) (ba bM (dJ (ae (bx gY (pv 1) ak) (ae (cE (br T) hr T.aW (ae (pv 0) (ae (pv 1) ai))) ai))) (cE (br T) hr T.aW (ae (pv 0) (ae ak ai)))))
   (au (aX (i:=4) ff.nd rfl (Or.inl rfl) (dJ (ae (bJ ["_law_j"] ["_law_at"] [3] (b6 rfl T.range (ae (pv 1) ai)) (λ_=>(aK (i:=0) (show ND9 ["_law_j","_law_at"] by decide +kernel))) (λ_=>bT) (λ_=>(cy (ae (d7 jh (by rfl) T.int PyProof.Rows.boot_int (ae (fD d9 (pv 0) (pv 1) (bp _)) ai)) (ae ak ai))))) ai)))
   (au (aX (i:=5) ff.nd rfl (Or.inr rfl) (ba bM (dJ (ae ak (ae ak (ae (cE (br T) hr T.aW (ae (pv 0) (ae (pv 1) ai))) ai)))) (cE (br T) hr T.aW (ae (pv 0) (ae ak ai)))))
   (au (aX (i:=6) ff.nd rfl (Or.inl rfl) (dJ (ae (bJ ["_law_j"] ["_law_first"] [5] (b6 rfl T.range (ae (pv 1) ai)) (λ_=>(aK (i:=0) (show ND9 ["_law_j","_law_first"] by decide +kernel))) (λ_=>bT) (λ_=>(cy (ae (d7 jh (by rfl) T.int PyProof.Rows.boot_int (ae (fD d9 (pv 0) (pv 1) (bp _)) ai)) (ae ak ai))))) ai)))
   (az (aR (cy (ae (pv 2) (ae (pv 4) (ae (pv 6) ai)))))))))))),?_⟩
  refine aN (σ:=[some (.ref b),some (.int n),none,none,none,none,none]) rfl ?_
  have bit:∀{z:Int},∀y∈(List.range n).map (λ(j:Nat)=>(((if decide ((j:Int)=z)=true then 1 else 0:Int)):Rat)),Fr 1 1 y:=λy hy=>by
   obtain ⟨j,_,rfl⟩:=ay.mp hy;exact KU (by split <;> simp)
  exists ⟨by lia,by lia,?_⟩;refine eI (n:=n) (cA K H) (λ(i:Nat)=>(List.range n).map λ(j:Nat)=>(((if decide ((j:Int)=(i:Int)+1)=true then 1 else 0:Int)):Rat)) (by lia) (λa b=>a.same b) ?_ ?_
  ·rintro i Hb NY NN hi sa k1;exists ⟨by lia,by lia,?_⟩;refine eI (n:=n) (bX K) (λ(j:Nat)=>(((if decide ((j:Int)=(i:Int)+1)=true then 1 else 0:Int)):Rat)) (by lia) (λa b=>a.same b) ?_ ?_
   ·rintro j Hz NY2 NN2 hj sz k2;exists bN λt Hy sy gy=>?_
    exact k2 _ _ sy (bX.mk gy rfl)
   ·rintro ys Hz t ht sz g pr nx;exact k1 _ _ sz ⟨t,rfl,sa.none ht,ys,g,pr⟩
  rintro ys H1 mm hm s1 g1 pr1 nx1;have G1:bg K H H1 mm ((List.range n).map λ(i:Nat)=>(List.range n).map λ(j:Nat)=>(((if decide ((j:Int)=(i:Int)+1)=true then 1 else 0:Int)):Rat)):=⟨ys,g1,pr1,fz nx1⟩;clear g1 pr1 nx1;have B1:=hB.same s1;have mb:mm≠b:=λz=>hB.at (by rw[<- z];exact hm)
  obtain ⟨q0,I0,xq,gq0⟩:=hB.inner;have mq:mm≠q0:=λz=>by rw[<- z,hm] at gq0;cases gq0
  exists ⟨by lia,by lia,?_⟩;refine yy (n:=n) (b:=b) (bX K) (Fr 1 1) B1 (by lia) (λa u B=>a.upto u B) ?_ ?_
  ·rintro j Ha NY NN hj ua Ba k1;exists ⟨b,3,rfl,Ba,by decide,by decide,λv Hb v0 v1 Bb ub=>?_⟩;exists bN λt Hc sc gc=>?_
   exact k1 _ ((v - 1:Int):Rat) _ (ub.same sc) (Bb.same sc) (Fr.int (by lia)) (bX.mk gc rfl)
  rintro ys2 cs H2 q2 hq2 u2 B2 g2 lc hc pr2 _;have u02:=(s1.upto (p:=b)).trans u2;have nq2:H q2=none:=s1.none hq2;obtain ⟨us,gu,pu⟩:=(G1.upto u2 B1 mb hB.at).toE;have lu:=pu.length;rw[ag,bC] at lu
  have q2m:q2≠mm:=λz=>by
   obtain ⟨_,gg,_⟩:=id G1;rw[z,gg] at hq2;cases hq2
  walk_at "w";rw[show ((n:Int) - 1)=((n - 1:Nat):Int) by lia];refine dY gu (eE (by lia)) rfl ?_;have G3:bg K H (upd H2 mm (.lst (us.set (n - 1) (.ref q2)))) mm (((List.range n).map λ(i:Nat)=>(List.range n).map λ(j:Nat)=>(((if decide ((j:Int)=(i:Int)+1)=true then 1 else 0:Int)):Rat)).set (n - 1) cs):=bg.ofE aH (jt (Paired.imp' (λ_ _ z=>kD.updL z gu (λq h=>h.2)) pu) (n - 1) ⟨q2,rfl,⟨nq2,q2m⟩,dg.updL ⟨ys2,g2,pr2⟩ gu q2m⟩) (λq h=>h.1) (λq h=>h.2);have B3:fR (upd H2 mm (.lst (us.set (n - 1) (.ref q2)))) b:=B2.upd (u02.2 _ I0) mb mq;have u03:cF b H (upd H2 mm (.lst (us.set (n - 1) (.ref q2)))):=u02.after hm;obtain ⟨mv,emv⟩:∃mv,mv=((List.range n).map λ(i:Nat)=>(List.range n).map λ(j:Nat)=>(((if decide ((j:Int)=(i:Int)+1)=true then 1 else 0:Int)):Rat)).set (n - 1) cs:=⟨_,rfl⟩;have lmv:mv.length=n:=by rw[emv,dR,ag,bC]
  have hmv:∀xs∈mv,xs.length=n/\∀y∈xs,Fr 1 1 y:=λxs hx=>by
   rw[emv] at hx;rcases bY hx with hx | rfl
   ·obtain ⟨i,_,rfl⟩:=ay.mp hx;exact ⟨by rw[ag,bC],bit⟩
   ·exact ⟨lc,hc⟩
  rw[<- emv] at G3;generalize upd H2 mm (.lst (us.set (n - 1) (.ref q2)))=H3 at G3 B3 u03 ⊢;clear emv pu gu G1 u2 pr2 g2 B2;exists ⟨b,n,rfl,B3,by lia,by lia,λa1 H4 a10 a11 B4 u4=>?_⟩;exists dd λl1 H5 s5 nl1 g5=>?_
  exists ⟨b,2,rfl,B4.same s5,by decide,by decide,λv H6 v0 v1 B6 u6=>?_⟩;have g6:=u6.other (λz=>B4.at (by rw[<- z];exact nl1)) g5;obtain ⟨x,ex,mx,_⟩:=jF (xs:=[V.int ((n:Int) - 1),V.int a1]) v0 (by simpa using v1)
  obtain ⟨at',rfl⟩:∃a:Int,x=.int a:=by
   simp only[aE,aO,or_false] at mx;rcases mx with rfl | rfl
   ·exact ⟨_,rfl⟩
   ·exact ⟨_,rfl⟩
  exists cg (bD.of g6) ex ?_;have u36:=(u4.same s5).trans u6;have G6:=G3.upto u36 B3 mb hB.at;have u06:=u03.trans u36;clear ex mx g6 g5 G3 u4 u6;exists ⟨by lia,by lia,?_⟩;refine eI (n:=n) (bX K) (λ(j:Nat)=>(((if decide ((j:Int)=at')=true then 1 else 0:Int)):Rat)) (by lia) (λa b=>a.same b) ?_ ?_
  ·rintro j Hz NY2 NN2 hj sz k2;exists bN λt Hy sy gy=>?_
   exact k2 _ _ sy (bX.mk gy rfl)
  rintro ys7 H7 q7 hq7 s7 g7 pr7 _;have R7:dg K H7 q7 _:=⟨ys7,g7,pr7⟩;exists dd λp8 H8 s8 n8' g8=>?_
  have s68:=s7.trans s8;have q78:q7≠p8:=λz=>by rw[z,n8'] at g7;cases g7
  have np8:H p8=none:=u06.none B6 (s7.none n8');have nq7:H q7=none:=u06.none B6 hq7
  have GP:bg K H H8 p8 [(List.range n).map λ(j:Nat)=>(((if decide ((j:Int)=at')=true then 1 else 0:Int)):Rat)]:=⟨_,g8,.cons ⟨q7,rfl,nq7,R7.same s8⟩ .nil,λz=>by
   rw[b8] at z;cases z;exact q78 rfl⟩
  have B8:=B6.same s68;have u08:=u06.same s68;have G8:=G6.same s68;have pb:p8≠b:=λz=>hB.at (by rw[<- z];exact np8)
  exists ⟨b,n,rfl,B8,by lia,by lia,λa2 H9 a20 a21 B9 u9=>?_⟩;exists dd λl2 Ha sa nl2 ga=>?_
  exists ⟨b,3,rfl,B9.same sa,by decide,by decide,λv' Hb v0' v1' Bb ub=>?_⟩;have gb:=ub.other (λz=>B9.at (by rw[<- z];exact nl2)) ga;obtain ⟨x,ex,mx,_⟩:=jF (xs:=[V.int 0,V.int 0,V.int a2]) v0' (by simpa using v1')
  obtain ⟨fi,rfl⟩:∃a:Int,x=.int a:=by
   simp only[aE,aO,or_false] at mx;rcases mx with rfl | rfl | rfl
   ·exact ⟨_,rfl⟩
   ·exact ⟨_,rfl⟩
   ·exact ⟨_,rfl⟩
  exists cg (bD.of gb) ex ?_;have u8b:=(u9.same sa).trans ub;have Gb:=G8.upto u8b B8 mb hB.at;have GPb:=GP.upto u8b B8 pb hB.at;have u0b:=u08.trans u8b;clear ex mx gb ga G8 GP u9 ub;exists ⟨by lia,by lia,?_⟩;refine eI (n:=n) (bX K) (λ(j:Nat)=>(((if decide ((j:Int)=fi)=true then 1 else 0:Int)):Rat)) (by lia) (λa b=>a.same b) ?_ ?_
  ·rintro j Hz NY2 NN2 hj sz k2;exists bN λt Hy sy gy=>?_
   exact k2 _ _ sy (bX.mk gy rfl)
  rintro ysc Hc qc hqc sc gc prc _;have Rc:dg K Hc qc _:=⟨ysc,gc,prc⟩;exists dd λpd Hd sd nd gd=>?_
  have sbd:=sc.trans sd;have qcd:qc≠pd:=λz=>by rw[z,nd] at gc;cases gc
  have npd:H pd=none:=u0b.none Bb (sc.none nd);have nqc:H qc=none:=u0b.none Bb hqc
  have GL:bg K H Hd pd [(List.range n).map λ(j:Nat)=>(((if decide ((j:Int)=fi)=true then 1 else 0:Int)):Rat)]:=⟨_,gd,.cons ⟨qc,rfl,nqc,Rc.same sd⟩ .nil,λz=>by
   rw[b8] at z;cases z;exact qcd rfl⟩
  exists bN λr He se ge=>?_
  have sbe:=sbd.trans se;refine k r mv _ _ He ⟨mm,p8,pd,ge,hm,np8,npd,Gb.same sbe,GPb.same sbe,GL.same se⟩ lmv rfl rfl ⟨by lia,by simp,by simp,λxs hx=>by rw[(hmv xs hx).1,lmv],λxs hx=>?_,λxs hx=>?_⟩ (λxs hx=>(hmv xs hx).2) (λxs hx=>?_) (λxs hx=>?_) (Bb.same sbe) (u0b.same sbe)
  ·rw[b8.mp hx,ag,bC,lmv]
  ·rw[b8.mp hx,ag,bC,lmv]
  ·rw[b8.mp hx];exact bit
  ·rw[b8.mp hx];exact bit
theorem jK:aU ["_law_top","_law_bottom","_law_one","_law_other"] ["_law_top","_law_bottom"] (aJ pQ):=by walk_at "d"
theorem eo (T:Txt K mg Z):cz P w K mg base fb 1 Z.wH Z.v7 ["_law_top","_law_bottom"] Jj:=by
 refine T.dt.F.ok jK (λvs H Q E h=>?_) (λcdv A outer s H vs Q E hr h=>?_)
 ·obtain ⟨t,b,rfl,_⟩:=h;rfl
 ·obtain ⟨t,b,rfl,hb,hs,k⟩:=h
  refine ⟨_,(au (aX (i:=2) jK.nd rfl (Or.inl rfl) (bA wg (by rfl) T.abs PyProof.Rows.boot_abs (ae (pv 0) ai)))
   (au (aX (i:=3) jK.nd rfl (Or.inl rfl) (pv 1))
   (au (vg PassesOwn.never (a8 qG (pv 2) ak (bp _))
    (az (ET (i:=2) (j:=3) rfl jK.nd rfl rfl (by decide) rfl rfl (ae (bx kn (pv 3) (pv 2)) (ae (pv 2) ai)) rfl)))
   (az (aR (cy (ae (bx gs (pv 0) (pv 3)) (ae (bx gs (pv 1) (pv 3)) ai)))))))),?_⟩
  refine aN (σ:=[some (.int t),some (.int b),none,none]) rfl ?_;walk_at "w"
  refine yU (λσ' H'=>∃(u v:Int),σ'=[some (.int t),some (.int b),some (.int u),some (.int v)]/\H'=H/\0<=u/\0 < v/\Int.gcd u v=Int.gcd t b) (λσ' _=>match σ' with | [_,_,some (.int u),_]=>u.natAbs | _=>0) ⟨_,b,rfl,rfl,by split <;> lia,hb,by
   split
   ·rw[Int.neg_gcd]
   ·rfl⟩ ?_
  rintro σ' H' ⟨u,v,rfl,rfl,hu,hv,hg⟩;exists fK (λh=>?_) (λh=>?_)
  ·have hu0:u≠0:=λz=>by subst z;simp at h
   exists eK (show (0:Int) < u by lia) ?_;walk_at "w";have h1:=jc v hu0;have h2:=fF v (show 0 < u by lia);exact ⟨⟨v % u,u,rfl,rfl,h1,by lia,by rw[iG,Fw,iG];exact hg⟩,by show (v % u).natAbs < u.natAbs;lia⟩
  ·have hu0:u=0:=by
    by_cases z:u=0
    ·exact z
    ·exfalso;apply h;simp [z]
   subst hu0
   have e:v=g t b:=by
    unfold g;rw[<- hg,Int.gcd_zero_left]
    lia
   have hgs:Sz 8999 v:=hs.le (by
    rw[e];have h1:(g t b).natAbs=Int.gcd t b:=by unfold g;simp
    rw[h1];exact fU (by lia) (by have:=dQ (a:=t) (b:=b);exact dw.mpr this |> λz=>by simpa using z))
   exists eK (show mN _ _ from ⟨by lia,hgs⟩) ?_;exists eK (show mN _ _ from ⟨by lia,hgs⟩) ?_;exists bN λr H' s' h'=>?_
   rw[b9 _ (by lia),b9 _ (by lia),e] at h';exact k r H' s' h'
theorem AS:aU ["_law_one","_law_other"] ["_law_one","_law_other"] (aJ pO):=by walk_at "d"
theorem jR (T:Txt K mg Z):cz P w K mg base fb 2 Z.wF Z.vZ ["_law_one","_law_other"] (mY K (λx y=>x+y)):=by
 refine T.fO.F.ok AS (λvs H Q E h=>?_) (λcdv A outer s H vs Q E hr h=>?_)
 ·obtain ⟨p,q,a,b,c,d,rfl,hp,hq,hb,hd,sa,sb,sc,sd,k⟩:=Dw h;rfl
 ·obtain ⟨p,q,a,b,c,d,rfl,hp,hq,hb,hd,sa,sb,sc,sd,k⟩:=Dw h;refine ⟨_,(az (aR (cE (eo T) hr T.dt (ae (bx eU (bx cK (ba bW (pv 0) ak) (ba bW (pv 1) ak)) (bx cK (ba bW (pv 1) ak) (ba bW (pv 0) ak))) (ae (bx cK (ba bW (pv 0) ak) (ba bW (pv 1) ak)) ai))))),?_⟩;refine aN (σ:=[some (.ref p),some (.ref q)]) rfl ?_;have hbd:0 < b*d:=gQ hb hd;have sbd:Sz 8999 (b*d):=(sb.mul sd).mono (by decide);exists eK (show fe _ _ from .inr ⟨_,_,sa,sd,by decide⟩) ?_;exists eK (show fe _ _ from .inr ⟨_,_,sc,sb,by decide⟩) ?_;exists eK (show fe _ _ from .inr ⟨_,_,sb,sd,by decide⟩) ?_;walk_at "w";exists ⟨_,_,rfl,hbd,sbd,k⟩
theorem zj:aU ["_law_one","_law_other"] ["_law_one","_law_other"] (aJ nk):=by walk_at "d"
theorem zL (T:Txt K mg Z):cz P w K mg base fb 3 Z.tY Z.tG ["_law_one","_law_other"] (AH K):=by
 refine T.md.F.ok zj (λvs H Q E h=>?_) (λcdv A outer s H vs Q E hr h=>?_)
 ·obtain ⟨p,q,xs,ys,rfl,_⟩:=h;rfl
 ·obtain ⟨p,q,xs,ys,rfl,hp,hq,hl,hz,h1,h2,kk⟩:=h;refine ⟨_,(az (aR (bJ ["_law_k"] ["_law_one","_law_other"] [0,1] (b6 rfl T.range (ae (bA a9 (by rfl) T.len aT (ae (pv 0) ai)) ai)) (λ_=>(aK (i:=0) (show ND9 ["_law_k","_law_one","_law_other"] by decide +kernel))) (λ_=>bT) (λ_=>(cE (jR T) hr T.fO (ae (ba (eZ K (by rfl)) (pv 1) (pv 0)) (ae (ba (eZ K (by rfl)) (pv 2) (pv 0)) ai))))))),?_⟩;refine aN (σ:=[some (.ref p),some (.ref q)]) rfl ?_;obtain ⟨us,gu,qu⟩:=id hp;obtain ⟨ws,gw,qw⟩:=id hq;have lu:=qu.length;exists ⟨_,_,rfl,.inl (bD.of gu),?_⟩;exists ⟨by lia,by lia,?_⟩;refine eI (n:=us.length) (bX K) (λi=>xs.getD i 0+ys.getD i 0) (by lia) (λa b=>a.same b) ?_ ?_
  ·rintro i H' NY NN hi s k1;have ix:i < xs.length:=by lia
   have iy:i < ys.length:=by lia
   obtain ⟨vx,ex,nx⟩:=Cg (Paired.imp' (λ_ _ z=>z.same s) qu) ix;obtain ⟨vy,ey,ny⟩:=Cg (Paired.imp' (λ_ _ z=>z.same s) qw) iy;exists cg (bD.of (s _ _ gu)) ex ?_;exists cg (bD.of (s _ _ gw)) ey ?_;exists ⟨_,_,_,_,rfl,nx,ny,h1 _ (getD_mem ix),h2 _ (getD_mem iy),λr3 H3 s3 n3=>k1 _ _ s3 n3⟩
  ·rintro ys' H' l hl' s g pr nx;exact kk l H' hl' s ⟨ys',g,by rw[DE (by lia)];rw[<- lu] at pr;exact pr⟩
theorem zi:aU ["_law_one","_law_other"] ["_law_one","_law_other"] (aJ nh):=by walk_at "d"
theorem i5 (T:Txt K mg Z):cz P w K mg base fb 2 Z.tX Z.tF ["_law_one","_law_other"] (mY K (λx y=>x*y)):=by
 refine T.fh.F.ok zi (λvs H Q E h=>?_) (λcdv A outer s H vs Q E hr h=>?_)
 ·obtain ⟨p,q,a,b,c,d,rfl,hp,hq,hb,hd,sa,sb,sc,sd,k⟩:=C1 h;rfl
 ·obtain ⟨p,q,a,b,c,d,rfl,hp,hq,hb,hd,sa,sb,sc,sd,k⟩:=C1 h;refine ⟨_,(az (aR (cE (eo T) hr T.dt (ae (bx cK (ba bW (pv 0) ak) (ba bW (pv 1) ak)) (ae (bx cK (ba bW (pv 0) ak) (ba bW (pv 1) ak)) ai))))),?_⟩;refine aN (σ:=[some (.ref p),some (.ref q)]) rfl ?_;have hbd:0 < b*d:=gQ hb hd;have sbd:Sz 8999 (b*d):=(sb.mul sd).mono (by decide);exists eK (show fe _ _ from .inr ⟨_,_,sa,sc,by decide⟩) ?_;exists eK (show fe _ _ from .inr ⟨_,_,sb,sd,by decide⟩) ?_;walk_at "w";exists ⟨_,_,rfl,hbd,sbd,k⟩
theorem BN:aU ["_law_by_here","_law_row_here"] ["_law_by_here","_law_row_here"] (aJ sv):=by walk_at "d"
theorem lV (T:Txt K mg Z):cz P w K mg base fb 3 Z.yM Z.yv ["_law_by_here","_law_row_here"] (EF K):=by
 refine T.ia.F.ok BN (λvs H Q E h=>?_) (λcdv A outer s H vs Q E hr h=>?_)
 ·obtain ⟨u,q,c,ys,rfl,_⟩:=h;rfl
 ·obtain ⟨u,q,c,ys,rfl,hc,sc,hq,hz,h2,kk⟩:=h;refine ⟨_,(az (aR (bJ ["_law_one"] ["_law_by_here"] [0] (bV (pv 1)) (λ_=>(aK (i:=0) (show ND9 ["_law_one","_law_by_here"] by decide +kernel))) (λ_=>bT) (λ_=>(cE (i5 T) hr T.fh (ae (pv 1) (ae (pv 0) ai))))))),?_⟩;refine aN (σ:=[some u,some (.ref q)]) rfl ?_;obtain ⟨us,gu,qu⟩:=id hq;exists ⟨⟨_,bD.of gu⟩,?_⟩;refine cO (K:=K) (F:=bX K) (bX K) (λy=>c*y) gu qu hz (λa b=>a.same b) (λa b=>a.same b) ?_ ?_
  ·rintro i y x H' NY NN en s hx k;exists ⟨_,_,_,_,rfl,hc.same s,hx,sc,h2 y (av en),λr H2 s2 h2'=>k _ _ s2 h2'⟩
  ·rintro ys' H' r hr s g pr nx;exact kk r H' hr s ⟨ys',g,pr⟩
theorem dc:aU ["_law_bag_here","_law_move_here","_law_put","_law_look","_law_n","_law_turn","_law_i","_law_j","_law_by_here","_law_less_here","_law_row_here"] ["_law_bag_here","_law_move_here","_law_put","_law_look"] (aJ lF):=by walk_at "d"
theorem oO (T:Txt K mg Z):cz P w K mg base fb 4 Z.rF Z.qY ["_law_bag_here","_law_move_here","_law_put","_law_look"] (xK K):=by
 refine T.iq.F.ok dc (λvs H Q E h=>?_) (λcdv A outer s H vs Q E hr h=>?_)
 ·obtain ⟨b,m,p,l,q0,n,WV,μ,A,us,ws,vs,rfl,_⟩:=h;rfl
 ·obtain ⟨b,m,p,l,q0,n,WV,μ,A,us,ws,vs,rfl,MA,X,n8,i4,o4,M0,M1,⟨M,eM⟩,V1,hA,k⟩:=h
  refine ⟨_,(au (aX (i:=4) dc.nd rfl (Or.inl rfl) (bA a9 (by rfl) T.len aT (ae (pv 1) ai)))
   (au (cG (PW.pt (jN (a8 oM (pv 4) ak (bp _)) (gW (a8 d9 (cE (br T) hr T.aW (ae (pv 0) (ae ak ai))) ak (bp _))))) (az (aR (cy (ae (pv 1) (ae (pv 2) (ae (pv 3) ai)))))) bL)
   (au (d6 PassesOwn.never rfl (b6 rfl T.range (ae (bx eU ak (cE (br T) hr T.aW (ae (pv 0) (ae ak ai)))) ai)) (aK (i:=5) dc.nd)
    (au (aX (i:=6) dc.nd rfl (Or.inl rfl) (cE (br T) hr T.aW (ae (pv 0) (ae (pv 4) ai))))
   (au (aX (i:=7) dc.nd rfl (Or.inl rfl) (bx kn (bx eU (bx eU (pv 6) ak) (cE (br T) hr T.aW (ae (pv 0) (ae (bx gY (pv 4) ak) ai)))) (pv 4)))
   (au (aX (i:=8) dc.nd rfl (Or.inl rfl) (cy (ae (ba bM (dJ (ae ak (ae (vo pF ak) (ae ak (ae (vo pF ak) ai))))) (cE (br T) hr T.aW (ae (pv 0) (ae ak ai)))) (ae ak ai))))
   (au (aX (i:=9) dc.nd rfl (Or.inl rfl) (cy (ae (bx gY ak (ba bW (pv 8) ak)) (ae ak ai))))
   (au (eL (cE (zL T) hr T.md (ae (ba bM (pv 1) (pv 6)) (ae (cE (lV T) hr T.ia (ae (pv 8) (ae (ba bM (pv 1) (pv 7)) ai))) ai))) (fu (pv 1) (pv 6) set_list))
   (au (d6 PassesOwn.never rfl (bV (bx lN (pv 1) (pv 3))) (aK (i:=10) dc.nd)
    (az (eL (cE (jR T) hr T.fO (ae (ba bM (pv 10) (pv 7)) (ae (cE (i5 T) hr T.fh (ae (pv 9) (ae (ba bM (pv 10) (pv 6)) ai))) ai))) (fu (pv 10) (pv 7) set_list))))
   (az (d6 PassesOwn.never rfl (bV (pv 2)) (aK (i:=10) dc.nd)
    (az (eL (cE (jR T) hr T.fO (ae (ba bM (pv 10) (pv 6)) (ae (cE (i5 T) hr T.fh (ae (pv 8) (ae (ba bM (pv 10) (pv 7)) ai))) ai))) (fu (pv 10) (pv 6) set_list))))))))))))
   (az (aR (cy (ae (pv 1) (ae (pv 2) (ae (pv 3) ai))))))))),?_⟩
  refine aN (σ:=[some (.ref b),some (.ref m),some (.ref p),some (.ref l),none,none,none,none,none,none,none]) rfl ?_;have done:∀r us' H' t,t<=3->H' r=some (.tup [.ref m,.ref p,.ref l])->gM K A H' n (λx=>Fr (μ x) (9^t*WV)) m p l b q0 us' ws vs->fk A b m H H'->Q (.ref r) H':=λr us' H' t ht g x kp=>k r us' H' g (x.weak λ_ _ y h=>h.mono (aB _ (ar (by decide) ht))) kp
  have X0:gM K A H n (λx=>Fr (μ x) (9^0*WV)) m p l b q0 us ws vs:=X.weak λ_ _ y h=>h.mono (by simp)
  clear X k;have gu:=X0.gm;have lu:=X0.lm;exists ⟨_,_,rfl,.inl (bD.of gu),?_⟩;rw[lu];clear gu lu;have kp0:fk A b m H H:=λ_ _ h _ _ _=>h
  exists fK (λh0=>?_) (λh0=>?_)
  ·exists bN λr H' s' g'=>?_
   exact done r us H' 0 (by decide) g' (X0.same s') (kp0.same s')
  have n2:2<=n:=by
   rcases bR n 2 with z | z
   ·exact absurd (decide_eq_true (show (n:Int) < 2 by lia)) h0
   ·exact z
  exists ⟨b,2,rfl,X0.bag,by decide,by decide,λv H1 v0 v1 B1 u1=>?_⟩;have X1:=X0.upto MA u1 B1;have kp1:=kp0.upto u1;exists fK (λh1=>?_) (λh1=>?_)
  ·exists bN λr H' s' g'=>?_
   exact done r us H' 0 (by decide) g' (X1.same s') (kp1.same s')
  exists ⟨b,3,rfl,B1,by decide,by decide,λc H2 c0 c1 B2 u2=>?_⟩;have X2:=X1.upto MA u2 B2;have kp2:=kp1.upto u2;clear X0 X1 kp0 kp1 u1 u2 B1;exists ⟨by lia,by lia,?_⟩;refine eF (n:=(1+c).toNat) (λt σ' H'=>∃(x1 x2 x3 x4 x5 x6:Option V) (us:List V),σ'=[some (.ref b),some (.ref m),some (.ref p),some (.ref l),some (.int n),x1,x2,x3,x4,x5,x6]/\gM K A H' n (λx=>Fr (μ x) (9^t*WV)) m p l b q0 us ws vs/\fk A b m H H') ⟨none,none,none,none,none,none,us,rfl,X2,kp2⟩ ?_ ?_
  ·rintro t σ' H' ht ⟨x1,x2,x3,x4,x5,x6,us,rfl,X,kp⟩;have t3:t<=2:=by lia
   exists ⟨b,n,rfl,X.bag,by lia,by lia,λii Ha i0 i1 Ba ua=>?_⟩;obtain ⟨ii,rfl⟩:=fo i0;have Xa:=X.upto MA ua Ba;have kpa:=kp.upto ua;exists ⟨b,_,rfl,Ba,by lia,by lia,λd Hb d0 d1 Bb ub=>?_⟩;have Xb:=Xa.upto MA ub Bb;have kpb:=kpa.upto ub;exists eK (show (0:Int) < n by lia) ?_;have j0:=jc ((ii:Int)+1+d) (show (n:Int)≠0 by lia);have j1:=fF ((ii:Int)+1+d) (show (0:Int) < n by lia);generalize ((ii:Int)+1+d) % (n:Int)=jj at j0 j1 ⊢;obtain ⟨jj,rfl⟩:=fo j0;exists dd λl0 Hc sc nc gc=>?_
   exists ⟨b,4,rfl,Bb.same sc,by decide,by decide,λv' Hd v0' v1' Bd ud=>?_⟩;have gd:=ud.other (λz=>Bb.at (by rw[<- z];exact nc)) gc;obtain ⟨x,ex,mx,_⟩:=jF (xs:=[V.int 1,V.int (-1),V.int 2,V.int (-2)]) v0' (by simpa using v1')
   obtain ⟨z,rfl,hz⟩:∃z:Int,x=.int z/\z.natAbs<=2:=by
    simp only[aE,aO,or_false] at mx;rcases mx with rfl | rfl | rfl | rfl
    ·exact ⟨1,rfl,by decide⟩
    ·exact ⟨-1,rfl,by decide⟩
    ·exact ⟨2,rfl,by decide⟩
    ·exact ⟨-2,rfl,by decide⟩
   have Xd:=(Xb.same sc).upto MA ud Bd;have kpd:=(kpb.same sc).upto ud;exists cg (bD.of gd) ex ?_;exists bN λbt He se ge=>?_
   exists bN λlt Hf sf gf=>?_
   have Xf:=(Xd.same se).same sf;have kpf:=(kpd.same se).same sf;have nb:bX K Hf ((z:Int):Rat) (.ref bt):=bX.mk (sf _ _ ge) rfl;have nl:bX K Hf ((0 - z:Int):Rat) (.ref lt):=bX.mk gf rfl;clear X Xa Xb Xd kp kpa kpb kpd ua ub ud sc gc gd ex mx ge gf se sf Ba Bb Bd nc;have gu:=Xf.gm;have lu:=Xf.lm
   have ru:∀x∈us,dX K A Hf n (Fr M (9^t*WV)) x:=λx hx=>by
    have:=Xf.row x (by simp [hx]);rwa [eM x (Xf.apart.1 x hx).1 (Xf.apart.1 x hx).2] at this
   have hM:0 < M/\M<=2^800:=by
    have hx:us[ii]'(by lia)∈us:=aZ _;have:=eM _ (Xf.apart.1 _ hx).1 (Xf.apart.1 _ hx).2;rw[<- this];exact ⟨M0 _,M1 _⟩
   have e1:us[ii]?=some (us[ii]'(by lia)):=by simp
   have e2:us[jj]?=some (us[jj]'(by lia)):=by simp
   obtain ⟨q1,z1,qs1,w1,a1,g1,k1,p1,l1,c1⟩:=(ru _ (av e1)).at;obtain ⟨q2,z2,qs2,w2,a2,g2,k2,p2,l2,c2⟩:=(ru _ (av e2)).at;rw[w1] at e1;rw[w2] at e2;generalize eW:9^t*WV=W at *
   have W9:9*W<=2^140:=by rw[<- eW];exact Hv (by lia) V1 (by decide)
   have sz9M:∀{x:Rat} {U:Nat},U<=9*W->Fr M U x->oa x:=λhU h=>Dj hM.1 hM.2 (aj hU W9) h
   have sz9:∀{x:Rat} {U:Nat} {v:V},U<=9*W->Fr (μ v) U x->oa x:=λhU h=>Dj (M0 _) (M1 _) (aj hU W9) h
   exists cg (bD.of gu) (eG e1) ?_;exists cg (bD.of gu) (eG e2) ?_;exists ⟨_,q2,_,qs2,rfl,nb,yZ (by lia),⟨z2,g2,p2⟩,by lia,λy hy=>sz9M (by lia) (c2 y hy),λr1 Hg n1 sg R1=>?_⟩;exists ⟨q1,r1,qs1,_,rfl,⟨z1,sg _ _ g1,Paired.imp' (λ_ _ y=>y.same sg) p1⟩,R1,by rw[ag,l1,l2],by lia,λy hy=>sz9M (by lia) (c1 y hy),λy hy=>?_,λr2 Hh n2' sh R2=>?_⟩
   ·obtain ⟨y',hy',rfl⟩:=ay.mp hy;exact uL hz (c2 y' hy') hM.1 hM.2 (by lia)
   have sfh:=sg.trans sh
   have new:V.ref r2∉us++vs++ws:=λz=>by
    obtain ⟨q',_,_,e',_,g',_⟩:=((Xf.same sg).row _ z).at;cases e';rw[n2'] at g';cases g'
   have Xh:=(Xf.same sfh).weak (C':=λx y=>(x∈ws->Fr (μ x) W y)/\Fr (μ x) (3*W) y) λx _ y h=>⟨λ_=>h,h.mono (by lia)⟩
   have kph:=kpf.same sfh;have guh:=sfh _ _ gu;have ar2:A r2:=(kpf.same sg).new hA (Xf.same sg).bag (by rw[sg _ _ gu];simp) n2'
   have rp2:dX K A Hh n (λy=>(V.ref r2∈ws->Fr (μ (.ref r2)) W y)/\Fr (μ (.ref r2)) (3*W) y) (.ref r2):=by
    rw[eM (.ref r2) (λz=>new (ax.mpr (.inr z))) (λz=>new (ax.mpr (.inl (ax.mpr (.inr z)))))];refine ⟨r2,_,rfl,ar2,R2,by rw[cR,ag];lia,λy hy=>⟨λz=>absurd (ax.mpr (.inr z)) new,?_⟩⟩;obtain ⟨j',hj',e⟩:=bK hy;rw[mR,En] at e;rw[<- e];exact z8 hz (c1 _ (aZ _)) (c2 _ (aZ _))
   exists dY guh (eE (by lia)) rfl ?_;have Xi:=Xh.set MA rp2 new ii;have kpi:=kph.upd (o:=.lst (us.set ii (.ref r2))) (q:=m) (.inr rfl);have nli:bX K (upd Hh m (.lst (us.set ii (.ref r2)))) ((0 - z:Int):Rat) (.ref lt):=(nl.same sfh).updL guh;have nbi:bX K (upd Hh m (.lst (us.set ii (.ref r2)))) ((z:Int):Rat) (.ref bt):=(nb.same sfh).updL guh;generalize upd Hh m (.lst (us.set ii (.ref r2)))=Hi at Xi kpi nli nbi ⊢;generalize us.set ii (.ref r2)=um at Xi;clear nb nl Xf kpf gu ru e1 e2 g1 p1 g2 p2 R1 R2 Xh kph guh rp2 sg sh sfh new;have gm:=Xi.gm;have lm:=Xi.lm;have gl:=Xi.gl;have nd:=Xi.nd;obtain ⟨nd1,nd2,nd3⟩:=cV.mp nd;exists lI gm gl (aL (bc (by lia))) λcl Hj sj nj gj=>?_
   have kpj:=kpi.same sj
   have rows:∀x∈um++vs,∀q,x=V.ref q->q≠cl:=λx hx q e y=>by
    obtain ⟨q',zs,_,e',_,g',_⟩:=(Xi.row x (ax.mpr (.inl hx))).at;rw[e] at e';cases e';rw[y,nj] at g';cases g'
   have Xj:=(Xi.same sj).weak (C':=λx y=>(x∈ws->Fr (μ x) W y)/\(x∈(um++vs).drop 0->Fr (μ x) (3*W) y)/\Fr (μ x) (9*W) y) λx _ y h=>⟨h.1,λ_=>h.2,h.2.mono (by lia)⟩
   have lj:bX K Hj ((0 - z:Int):Rat) (.ref lt):=nli.same sj;have bj:bX K Hj ((z:Int):Rat) (.ref bt):=nbi.same sj;clear Xi kpi nli nbi;refine ⟨_,rfl,⟨_,bD.of gj⟩,?_⟩;refine iI (K:=K) (a:=cl) (xs:=um++vs) (λs σ' H'=>∃x6:Option V,σ'=[some (.ref b),some (.ref m),some (.ref p),some (.ref l),some (.int n),some (.int t),some (.int ii),some (.int jj),some (.ref bt),some (.ref lt),x6]/\gM K A H' n (λx y=>(x∈ws->Fr (μ x) W y)/\(x∈(um++vs).drop s->Fr (μ x) (3*W) y)/\Fr (μ x) (9*W) y) m p l b q0 um ws vs/\fk A b m H H'/\H' cl=some (.lst (um++vs))/\bX K H' ((0 - z:Int):Rat) (.ref lt)/\bX K H' ((z:Int):Rat) (.ref bt)) ⟨_,rfl,Xj,kpj,gj,lj,bj⟩ (λs σ' H' _ ⟨_,_,_,_,e,_⟩=>bD.of e) ?_ ?_
   ·rintro s x σ' Hk hx ⟨y6,rfl,Xk,kpk,gk,lk,bk⟩;have hs:s < (um++vs).length:=(aA.mp hx).1;have mx:=av hx
    have xd:x∈(um++vs).drop s:=by
     rw[dq hs,(aA.mp hx).2];exact .head _
    have xd2:x∉(um++vs).drop (s+1):=λz=>by
     have:=nd1.sublist (List.drop_sublist s _);rw[dq hs,dk,(aA.mp hx).2] at this;exact this.1 z
    have xw:x∉ws:=λz=>nd3 x mx x z rfl
    have rx:=Xk.row x (ax.mpr (.inl mx));obtain ⟨q,zs,qs,rfl,aq,gq,lq,pq,lq2,cq⟩:=rx.at;have qcl:=rows _ mx q rfl;obtain ⟨vj,ej,nj'⟩:=Cg pq (j:=jj) (by lia);obtain ⟨vi,ei,ni'⟩:=Cg pq (j:=ii) (by lia);have cj:=(cq _ (getD_mem (xs:=qs) (i:=jj) (by lia))).2.1 xd;have ci:=(cq _ (getD_mem (xs:=qs) (i:=ii) (by lia))).2.1 xd;exists cg (bD.of gq) ej ?_;exists cg (bD.of gq) ei ?_;exists ⟨_,_,_,_,rfl,lk,ni',yZ (by lia),sz9 (by lia) ci,λr3 Hl sl n3=>?_⟩;exists ⟨_,_,_,_,rfl,nj'.same sl,n3,sz9 (by lia) cj,uL (by lia) ci (M0 _) (M1 _) (by lia),λr4 Hm sm n4=>?_⟩;have slm:=sl.trans sm;exists dY (slm _ _ gq) (eE (by lia)) rfl ?_;refine ⟨_,rfl,?_,(kpk.same slm).upd (.inl aq),by rw[a7 qcl.symm];exact slm _ _ gk,(lk.same slm).updL (slm _ _ gq),(bk.same slm).updL (slm _ _ gq)⟩;refine ((Xk.same slm).weak λx' _ y h=>⟨h.1,λz=>h.2.1 ?_,h.2.2⟩).put MA aq (slm _ _ gq) n4 ⟨λz=>absurd z xw,λz=>absurd z xd2,?_⟩ jj
    ·rw[dq hs];exact .tail _ z
    ·exact (z8 (by lia) cj ci).mono (by lia)
   ·rintro σ' Hk ⟨y6,rfl,Xk,kpk,gk,lk,bk⟩;have gp:=Xk.gp;have Xk2:=Xk.weak (C':=λx y=>(x∈ws.drop 0->Fr (μ x) W y)/\Fr (μ x) (9*W) y) λx _ y h=>⟨λz=>h.1 (by simpa using z),h.2.2⟩
    clear Xk;exists ⟨⟨_,bD.of gp⟩,?_⟩;refine iI (K:=K) (a:=p) (xs:=ws) (λs σ' H'=>∃x6:Option V,σ'=[some (.ref b),some (.ref m),some (.ref p),some (.ref l),some (.int n),some (.int t),some (.int ii),some (.int jj),some (.ref bt),some (.ref lt),x6]/\gM K A H' n (λx y=>(x∈ws.drop s->Fr (μ x) W y)/\Fr (μ x) (9*W) y) m p l b q0 um ws vs/\fk A b m H H'/\bX K H' ((z:Int):Rat) (.ref bt)) ⟨_,rfl,Xk2,kpk,bk⟩ (λs σ' H' _ ⟨_,_,X,_⟩=>bD.of X.gp) ?_ ?_
    ·rintro s x σ' Hl hx ⟨w6,rfl,Xl,kpl,bl⟩;have hs:s < ws.length:=(aA.mp hx).1;have mx:=av hx
     have xd:x∈ws.drop s:=by
      rw[dq hs,(aA.mp hx).2];exact .head _
     have xd2:x∉ws.drop (s+1):=λz=>by
      have:=nd2.sublist (List.drop_sublist s _);rw[dq hs,dk,(aA.mp hx).2] at this;exact this.1 z
     have rx:=Xl.row x (ax.mpr (.inr mx));obtain ⟨q,zs,qs,rfl,aq,gq,lq,pq,lq2,cq⟩:=rx.at;obtain ⟨vj,ej,nj'⟩:=Cg pq (j:=jj) (by lia);obtain ⟨vi,ei,ni'⟩:=Cg pq (j:=ii) (by lia);have cj:=(cq _ (getD_mem (xs:=qs) (i:=jj) (by lia))).1 xd;have ci:=(cq _ (getD_mem (xs:=qs) (i:=ii) (by lia))).1 xd;exists cg (bD.of gq) ei ?_;exists cg (bD.of gq) ej ?_;exists ⟨_,_,_,_,rfl,bl,nj',yZ (by lia),sz9 (by lia) cj,λr3 Hm sm n3=>?_⟩;exists ⟨_,_,_,_,rfl,ni'.same sm,n3,sz9 (by lia) ci,uL (by lia) cj (M0 _) (M1 _) (by lia),λr4 Hn sn n4=>?_⟩;have smn:=sm.trans sn;exists dY (smn _ _ gq) (eE (by lia)) rfl ?_;refine ⟨_,rfl,?_,(kpl.same smn).upd (.inl aq),(bl.same smn).updL (smn _ _ gq)⟩;refine ((Xl.same smn).weak λx' _ y h=>⟨λz=>h.1 ?_,h.2⟩).put MA aq (smn _ _ gq) n4 ⟨λz=>absurd z xd2,?_⟩ ii
     ·rw[dq hs];exact .tail _ z
     ·exact (z8 (by lia) ci cj).mono (by lia)
    ·rintro σ' Hl ⟨w6,rfl,Xl,kpl,bl⟩;refine ⟨_,_,_,_,_,_,um,rfl,Xl.weak λ_ _ y h=>h.2.mono ?_,kpl⟩;rw[<- eW,fE,cp (9^t) 9,cb];exact ao _
  ·rintro σ' H' ⟨x1,x2,x3,x4,x5,x6,us',rfl,X,kp⟩;exists bN λr H2' s' g'=>?_
   exact done r us' H2' _ (by lia) g' (X.same s') (kp.same s')
theorem cU:aU ["_law_bag_here","_law_one","_law_other","_law_ahead","_law_behind","_law_found","_law_k"] ["_law_bag_here"] (aJ gU):=by walk_at "d"
theorem qH (T:Txt K mg Z):cz P w K mg base fb 5 Z.kO Z.kL ["_law_bag_here"] (Gu K):=by
 refine T.gF.F.ok cU (λvs H Q E h=>?_) (λcdv A outer s H vs Q E hr h=>?_)
 ·obtain ⟨b,rfl,_⟩:=h;rfl
 ·obtain ⟨b,rfl,hB,k⟩:=h
  refine ⟨_,(au (aX (i:=1) cU.nd rfl (Or.inl rfl) (cE (lT T) hr T.gG (ae (pv 0) (ae ak ai))))
   (au (aX (i:=2) cU.nd rfl (Or.inl rfl) (cE (lT T) hr T.gG (ae (pv 0) (ae (bx eU ak (cE (br T) hr T.aW (ae (pv 0) (ae ak ai)))) ai))))
   (au (aX (i:=3) cU.nd rfl (Or.inr rfl) (bx zE (dJ (ae (cy (ae ak (ae ak ai))) ai)) ak))
   (au (aX (i:=4) cU.nd rfl (Or.inr rfl) (bx zE (dJ (ae (cy (ae ak (ae ak ai))) ai)) (bA a9 (by rfl) T.len aT (ae (ba bW (pv 2) ak) ai))))
   (au (aX (i:=5) cU.nd rfl (Or.inl rfl) (dJ ai))
   (au (d6 PassesOwn.never rfl (b6 rfl T.range (ae ak ai)) (aK (i:=6) cU.nd)
    (az (iZ (sX cJ dF dE jg (pv 5) (ae (bx lN (bJ ["_law_row_here"] ["_law_behind"] [4] (bV (ba bW (pv 1) (pv 6))) (λ_=>(aK (i:=0) (show ND9 ["_law_row_here","_law_behind"] by decide +kernel))) (λ_=>bT) (λ_=>(bx lN (pv 0) (pv 1)))) (bJ ["_law_row_here"] ["_law_ahead"] [3] (bV (ba bW (pv 2) (pv 6))) (λ_=>(aK (i:=0) (show ND9 ["_law_row_here","_law_ahead"] by decide +kernel))) (λ_=>bT) (λ_=>(bx lN (pv 1) (pv 0))))) ai)))))
   (az (aR (cE (oO T) hr T.iq (ae (pv 0) (ae (ba bM (pv 5) ak) (ae (ba bM (pv 5) ak) (ae (ba bM (pv 5) ak) ai))))))))))))),?_⟩
  refine aN (σ:=[some (.ref b),none,none,none,none,none,none]) rfl ?_;obtain ⟨q0,I0,xq,gq0⟩:=hB.inner;exists ⟨b,3,rfl,hB,by decide,by decide,λr1 mv1 pt1 lk1 H1 P1 lm1 lp1 ll1 D1 fm1 fp1 fl1 B1 u1=>?_⟩;exists ⟨b,3,rfl,B1,by decide,by decide,λv H2 v0 v1 B2 u2=>?_⟩;obtain ⟨v,rfl⟩:=fo v0;have u02:=u1.trans u2;walk_at "w";rw[show ((3:Int)+(v:Int))=((3+v:Nat):Int) by lia];refine ⟨b,3+v,rfl,B2,by lia,by lia,λr2 mv2 pt2 lk2 H3 P2 lm2 lp2 ll2 D2 fm2 fp2 fl2 B3 u3=>?_⟩;have u03:=u02.trans u3;have P1c:=(P1.upto (u2.trans u3) B1 hB.at);have P2c:fv K H H3 r2 mv2 pt2 lk2:=P2.weak λq h=>u02.none B2 h
  exists bN λt0 H4 s4 g4=>?_
  exists dd λa1 H5 s5 n5 g5=>?_
  exists zw (k:=3) g5 (by decide) λah H6 s6 n6 g6=>?_
  have s36:=(s4.trans s5).trans s6;obtain ⟨m1,p1,l1,gt1,m1n,p1n,l1n,Gm1,Gp1,Gl1⟩:=P1c.same s36;obtain ⟨m2,p2,l2,gt2,m2n,p2n,l2n,Gm2,Gp2,Gl2⟩:=P2c.same s36;have N0:bX K H6 0 (V.ref t0):=bX.mk (q:=0) ((s5.trans s6) _ _ g4) rfl;exists bN λt1 H7 s7 g7=>?_
  exists dd λa2 H8 s8 n8' g8=>?_
  have s68:=s7.trans s8;have gt2':=s68 _ _ gt2;obtain ⟨um2,gm2,qm2,_⟩:=id (Gm2.same s68);have lum2:=qm2.length;exists ⟨_,_,rfl,.inl (bD.of gm2),?_⟩;rw[<- lum2,lm2];exists zw (k:=3+v) g8 (by lia) λbh H9 s9 n9 g9=>?_
  have s69:=s68.trans s9;have s39:=s36.trans s69;have N1:bX K H9 0 (V.ref t1):=bX.mk (q:=0) ((s8.trans s9) _ _ g7) rfl;have u09:=u03.same s39;have B9:=B3.same s39;have g6':=s69 _ _ g6;have N0':=N0.same s69;exists dd λfd H10 s10 n10 g10=>?_
  have X1:∀i:Nat,i < 3->∃q1 R1 q2 R2,[V.ref m1,V.ref p1,V.ref l1][i]?=some (V.ref q1)/\bg K H H9 q1 R1/\(∀xs∈R1,xs.length=3/\∀y∈xs,Fr 1 1 y)/\[V.ref m2,V.ref p2,V.ref l2][i]?=some (V.ref q2)/\bg K H H9 q2 R2/\(∀xs∈R2,xs.length=3+v/\∀y∈xs,Fr 1 1 y)/\R1.length<=100/\R2.length<=100/\[6+v,2,2][i]?=some (R1.length+R2.length):=λi hi=>by
   rcases (show i=0\/i=1\/i=2 by lia) with rfl | rfl | rfl
   ·exact ⟨m1,mv1,m2,mv2,rfl,Gm1.same s69,λxs hx=>⟨by rw[D1.mw xs hx,lm1],fm1 xs hx⟩,rfl,Gm2.same s69,λxs hx=>⟨by rw[D2.mw xs hx,lm2],fm2 xs hx⟩,by lia,by lia,by rw[lm1,lm2,show 3+(3+v)=6+v by lia];rfl⟩
   ·exact ⟨p1,pt1,p2,pt2,rfl,Gp1.same s69,λxs hx=>⟨by rw[D1.pw xs hx,lm1],fp1 xs hx⟩,rfl,Gp2.same s69,λxs hx=>⟨by rw[D2.pw xs hx,lm2],fp2 xs hx⟩,by lia,by lia,by rw[lp1,lp2];rfl⟩
   ·exact ⟨l1,lk1,l2,lk2,rfl,Gl1.same s69,λxs hx=>⟨by rw[D1.lw xs hx,lm1],fl1 xs hx⟩,rfl,Gl2.same s69,λxs hx=>⟨by rw[D2.lw xs hx,lm2],fl2 xs hx⟩,by lia,by lia,by rw[ll1,ll2];rfl⟩
  exists ⟨by decide,by decide,?_⟩;refine eF (n:=3) (λi σ' H'=>aF H9 H'/\∃x6 L,σ'=[some (.ref b),some (.ref r1),some (.ref r2),some (.ref ah),some (.ref bh),some (.ref fd),x6]/\LS K H9 H' (6+v) fd L/\L.length=i/\∀(j:Nat) (e:Addr×List V),L[j]?=some e->[6+v,2,2][j]?=some e.2.length) ⟨s10,none,[],rfl,⟨g10,n10,(λ_ z=>nomatch z),j5,(λ_ z=>nomatch z),j5⟩,rfl,λj e h=>by simp at h⟩ ?_ ?_
  ·rintro i σ' H' hi ⟨s',x6,L,rfl,T,lL,hL⟩;obtain ⟨q1,R1,q2,R2,e1,G1,w1,e2,G2,w2,b1,b2,hlen⟩:=X1 i hi;have gt1':=s' _ _ (s69 _ _ gt1);have gt2'':=s' _ _ (s69 _ _ gt2);obtain ⟨ux1,gx1,qx1,_⟩:=id (G1.same s');have gb:=s' _ _ g9;have ga:=s' _ _ g6';exists ⟨.inl ⟨rfl,_,bD.of T.gf⟩,?_⟩;exists BR (jG.of gt1') (eG e1) ?_;exists ⟨⟨_,bD.of gx1⟩,?_⟩;refine yw (K:=K) (F:=cA K H) (λH'' c x=>∃q,x=V.ref q/\dg K H'' q c) (λr=>r++List.replicate (3+v) 0) gx1 qx1 (by lia) (λa b=>a.same b) (λa b=>by obtain ⟨q,e,r⟩:=a;exact ⟨q,e,r.same b⟩) (λa=>by obtain ⟨q,e,_,gg,_⟩:=a;exact ⟨q,e,by rw[gg];exact λz=>nomatch z⟩) ?_ ?_
   ·rintro j ns x Hi NY NN en si ⟨q,rfl,_,zs,gz,qz⟩ k1;have ws:=(w1 ns (av en)).1;have lz:=qz.length;exists lI gz (si _ _ gb) (aL (bc (by rw[cX];lia))) λc Hj sj nj gj=>?_
    exact k1 _ _ sj ⟨c,rfl,_,gj,bP (Paired.imp' (λ_ _ z=>z.same sj) qz) (js (((N1.same s').same si).same sj) _)⟩ ⟨c,rfl,nj⟩
   rintro ys1 Ha c1 hc1 sa ga1 nd1 ne1 pr1;obtain ⟨ux2,gx2,qx2,_⟩:=id ((G2.same s').same sa);have gt2a:=sa _ _ gt2'';exists BR (jG.of gt2a) (eG e2) ?_;exists ⟨⟨_,bD.of gx2⟩,?_⟩;refine yw (K:=K) (F:=cA K H) (λH'' c x=>∃q,x=V.ref q/\dg K H'' q c) (λr=>List.replicate 3 0++r) gx2 qx2 (by lia) (λa b=>a.same b) (λa b=>by obtain ⟨q,e,r⟩:=a;exact ⟨q,e,r.same b⟩) (λa=>by obtain ⟨q,e,_,gg,_⟩:=a;exact ⟨q,e,by rw[gg];exact λz=>nomatch z⟩) ?_ ?_
   ·rintro j ns x Hi NY NN en si ⟨q,rfl,_,zs,gz,qz⟩ k1;have ws:=(w2 ns (av en)).1;have lz:=qz.length;exists lI ((sa.trans si) _ _ ga) gz (aL (bc (by rw[cX];lia))) λc Hj sj nj gj=>?_
    exact k1 _ _ sj ⟨c,rfl,_,gj,bP (js ((((N0'.same s').same sa).same si).same sj) _) (Paired.imp' (λ_ _ z=>z.same sj) qz)⟩ ⟨c,rfl,nj⟩
   rintro ys2 Hb c2 hc2 sb gb2 nd2 ne2 pr2;have sab:=sa.trans sb;have ly1:=pr1.length;have ly2:=pr2.length;rw[ag] at ly1 ly2;exists lI (sb _ _ ga1) gb2 (aL (bc (by lia))) λqn Hc sc nc gc=>?_
   have sac:=sab.trans sc;have gfc:=sac _ _ T.gf;exists jf gfc (bc (by rw[ag];lia)) ?_
   have rP:∀{c:List Rat} {x:V},(∃q,x=V.ref q/\dg K Hb q c)->(∃q,x=V.ref q/\H' q=none)->c.length=6+v->(∀y∈c,Fr 1 1 y)->dX K (λz=>H' z=none/\z≠qn) Hc (6+v) (Fr 1 1) x:=λ⟨q,e,r⟩ ⟨q',e',nq⟩ hl hf=>by
    rw[e] at e';cases e';exact ⟨q,_,e,⟨nq,λz=>by obtain ⟨_,gg,_⟩:=r;rw[z,nc] at gg;cases gg⟩,r.same sc,hl,hf⟩
   refine ⟨(s'.trans sac).after n10,some (.int i),L++[(qn,ys1++ys2)],rfl,T.snoc s' sac (sab.none nc) gc ?_ (λx hx=>?_),by rw[aw,aS,lL],λj e he=>?_⟩
   ·refine cV.mpr ⟨nd1,nd2,λx hx y hy z=>?_⟩;obtain ⟨_,_,q,e,_,gg,_⟩:=cC pr1 hx;obtain ⟨q',e',nq,_⟩:=ne2 y hy;rw[<- z,e] at e';cases e';rw[nq] at gg;cases gg
   ·rcases ax.mp hx with hx | hx
    ·obtain ⟨c,mc,q,e,r⟩:=cC pr1 hx;obtain ⟨ns,mn,rfl⟩:=ay.mp mc;obtain ⟨q',e',nq,_⟩:=ne1 x hx;refine rP ⟨q,e,r.same sb⟩ ⟨q',e',nq⟩ (by rw[aw,cX,(w1 ns mn).1];lia) λy hy=>?_
     rcases ax.mp hy with hy | hy
     ·exact (w1 ns mn).2 y hy
     ·rw[(List.mem_replicate.mp hy).2];exact Fr.zero
    ·obtain ⟨c,mc,q,e,r⟩:=cC pr2 hx;obtain ⟨ns,mn,rfl⟩:=ay.mp mc;obtain ⟨q',e',nq,_⟩:=ne2 x hx;refine rP ⟨q,e,r⟩ ⟨q',e',sa.none nq⟩ (by rw[aw,cX,(w2 ns mn).1];lia) λy hy=>?_
     rcases ax.mp hy with hy | hy
     ·rw[(List.mem_replicate.mp hy).2];exact Fr.zero
     ·exact (w2 ns mn).2 y hy
   ·rcases bR j L.length with z | z
    ·rw[bZ z] at he;exact hL j e he
    ·have hj:=(aA.mp he).1;rw[aw,aS] at hj;have ej:j=L.length:=by lia
     subst ej;rw[bu (ao _),j4] at he;cases he;rw[lL,hlen,aw,ly1,ly2]
  ·rintro σ' H' ⟨s',x6,L,rfl,T,lL,hL⟩
   obtain ⟨⟨m,us⟩,⟨p,ws⟩,⟨l,vs⟩,rfl⟩:∃a b c,L=[a,b,c]:=by
    rcases L with _ | ⟨a,_ | ⟨b,_ | ⟨c,_ | ⟨d,L⟩⟩⟩⟩
    ·cases lL
    ·cases lL
    ·cases lL
    ·exact ⟨a,b,c,rfl⟩
    ·simp at lL
   have lu:us.length=6+v:=by have:=hL 0 _ rfl;simpa using this.symm
   have lw:ws.length=2:=by have:=hL 1 _ rfl;simpa using this.symm
   have lv:vs.length=2:=by have:=hL 2 _ rfl;simpa using this.symm
   have gf:=T.gf;obtain ⟨mn,mf,gm⟩:=T.ls (m,us) (by simp);obtain ⟨pn,pf,gp⟩:=T.ls (p,ws) (by simp);obtain ⟨ln,lf,gl⟩:=T.ls (l,vs) (by simp);have nd:=T.nd;have rw':=T.rows;have rd:=T.rd;clear T hL;have gf:H' fd=some (.lst [.ref m,.ref p,.ref l]):=gf;have nd:[m,p,l].Nodup:=nd;have rd:(us++(ws++(vs++[]))).Nodup:=rd;have u0':=u09.same s';have B':=B9.same s';have hm0:H m=none:=u09.none B9 mn;have hp0:H p=none:=u09.none B9 pn;have hl0:H l=none:=u09.none B9 ln;obtain ⟨A,eA⟩:∃A:Addr->Prop,A=λq=>H q=none/\q≠m/\q≠p/\q≠l:=⟨_,rfl⟩
   have mkA:∀{q},H q=none->q≠m->q≠p->q≠l->A q:=λh1 h2 h3 h4=>by rw[eA];exact ⟨h1,h2,h3,h4⟩
   have unA:∀{q},A q->H q=none/\q≠m/\q≠p/\q≠l:=λh=>by rw[eA] at h;exact h
   have nb:∀{q},H q=none->q≠b:=λh z=>hB.at (by rw[<- z];exact h)
   have MA:Bx A m p l b q0:=⟨λz=>(unA z).2.1 rfl,λz=>(unA z).2.2.1 rfl,λz=>(unA z).2.2.2 rfl,λz=>hB.at (unA z).1,(λz=>by have z1:=(unA z).1;rw[gq0] at z1;cases z1),nb hm0,nb hp0,nb hl0,by intro z;subst z;simp at nd,by intro z;subst z;simp at nd,λz=>by rw[<- z,hm0] at gq0;cases gq0⟩;have X:gM K A H' (6+v) (λ_=>Fr 1 1) m p l b q0 us ws vs:=⟨B',u0'.2 _ I0,gm,gp,gl,lu,λx hx=>?_,?_⟩
   ·exists ⟨b,m,p,l,q0,6+v,1,λ_=>1,A,us,ws,vs,rfl,MA,X,by lia,by lia,by lia,λ_=>Nat.zero_lt_one,λ_=>cu,⟨1,λ_ _ _=>rfl⟩,by decide,λq hq=>?_,λr us' H'' g Y kp=>?_⟩
    ·exact mkA (u0'.none B' hq) (λz=>by rw[z,gm] at hq;cases hq) (λz=>by rw[z,gp] at hq;cases hq) (λz=>by rw[z,gl] at hq;cases hq)
    ·obtain ⟨mv,Gm,lmv,hmv⟩:=ic (H0:=H) (n:=6+v) (C:=Fr 1 (9^3*1)) (m:=6+v) ⟨us',Y.gm,Y.lm,MA.am,λx hx=>Y.row x (by simp [hx])⟩ λq h=>(unA h).1
     obtain ⟨pt,Gp,lpt,hpt⟩:=ic (H0:=H) (n:=6+v) (C:=Fr 1 (9^3*1)) (m:=2) ⟨ws,Y.gp,lw,MA.ap,λx hx=>Y.row x (by simp [hx])⟩ λq h=>(unA h).1
     obtain ⟨lk,Gl,llk,hlk⟩:=ic (H0:=H) (n:=6+v) (C:=Fr 1 (9^3*1)) (m:=2) ⟨vs,Y.gl,lv,MA.al,λx hx=>Y.row x (by simp [hx])⟩ λq h=>(unA h).1
     refine k r mv pt lk H'' ⟨m,p,l,g,hm0,hp0,hl0,Gm,Gp,Gl⟩ (by lia) ⟨by lia,by lia,by lia,λxs hx=>by rw[(hmv xs hx).1,lmv],λxs hx=>by rw[(hpt xs hx).1,lmv],λxs hx=>by rw[(hlk xs hx).1,lmv]⟩ (λxs hx=>(hmv xs hx).2) (λxs hx=>(hpt xs hx).2) (λxs hx=>(hlk xs hx).2) Y.bag ⟨λc' u e n1=>kp c' u (u0'.1 _ _ e n1) n1 (λz=>by have:=(unA z).1;rw[e] at this;cases this) (λz=>by rw[z,hm0] at e;cases e),λq h=>by rw[<- Inner.inj I0 h];exact Y.inn⟩
   ·have hx:∃e∈[(m,us),(p,ws),(l,vs)],x∈e.2:=by
     rcases ax.mp hx with hx | hx
     ·rcases ax.mp hx with hx | hx
      ·exact ⟨(m,us),by simp,hx⟩
      ·exact ⟨(l,vs),by simp,hx⟩
     ·exact ⟨(p,ws),by simp,hx⟩
    obtain ⟨e,he,hx⟩:=hx;refine (rw' e he x hx).weak (λq hq=>?_) (λ_ w=>w);obtain ⟨⟨h1,_⟩,h2⟩:=hq;have h2:q∉[m,p,l]:=h2;simp only[aE,aO,or_false,not_or] at h2;exact mkA (u09.none B9 h1) h2.1 h2.2.1 h2.2.2
   ·rw[w5] at rd
    have e:(us++vs++ws).Perm (us++(ws++vs)):=by
     rw[bO];exact List.Perm.append_left _ List.perm_append_comm
    exact e.nodup_iff.mpr rd
theorem m3:aU ["_law_bag_here","_law_wide","_law_way"] ["_law_bag_here","_law_wide"] (aJ kg):=by walk_at "d"
theorem vE (T:Txt K mg Z):cz P w K mg base fb 2 Z.o9 Z.oV ["_law_bag_here","_law_wide"] (uP K):=by
 refine T.jB.F.ok m3 (λvs H Q E h=>?_) (λcdv A outer s H vs Q E hr h=>?_)
 ·obtain ⟨b,w,rfl,_⟩:=h;rfl
 ·obtain ⟨b,w,rfl,hB,w0,w1,k⟩:=h
  refine ⟨_,(au (aX (i:=2) m3.nd rfl (Or.inl rfl) (cE (br T) hr T.aW (ae (pv 0) (ae ak ai))))
   (au (cG (a8 oM (pv 2) ak (bp _)) (az (aR (cy (ae ak (ae ak ai))))) bL)
   (au (cG (a8 oM (pv 2) ak (bp _)) (az (aR (cy (ae (bx gY (cE (br T) hr T.aW (ae (pv 0) (ae ak ai))) ak) (ae ak ai))))) bL)
   (au (cG (a8 d9 (pv 2) ak (bp _)) (az (aR (cE (eo T) hr T.dt (ae (bx gY (cE (br T) hr T.aW (ae (pv 0) (ae ak ai))) ak) (ae (bx eU ak (cE (br T) hr T.aW (ae (pv 0) (ae ak ai)))) ai))))) bL)
   (az (aR (cE (eo T) hr T.dt (ae (bx gY (cE (br T) hr T.aW (ae (pv 0) (ae (bx eU (bx cK ak (pv 1)) ak) ai))) (pv 1)) (ae (bx eU ak (cE (br T) hr T.aW (ae (pv 0) (ae (pv 1) ai)))) ai))))))))),?_⟩
  refine aN (σ:=[some (.ref b),some (.int w),none]) rfl ?_;exists ⟨b,8,rfl,hB,by decide,by decide,λv H1 v0 v1 B1 u1=>?_⟩;exists fK (λh0=>?_) (λh0=>?_)
  ·exists bN λr H2 s2 g2=>?_
   exact k r 0 _ ⟨bo _,by show 1<=_;lia⟩ (bX.mk g2 rfl) (B1.same s2) (u1.same s2)
  exists fK (λh1=>?_) (λh1=>?_)
  ·exists ⟨b,7,rfl,B1,by decide,by decide,λa H2 a0 a1 B2 u2=>?_⟩;exists bN λr H3 s3 g3=>?_
   exact k r ((a - 3:Int):Rat) _ ⟨by show (a - 3).natAbs<=_;lia,by show 1<=_;lia⟩ (bX.mk g3 rfl) (B2.same s3) ((u1.trans u2).same s3)
  exists fK (λh2=>?_) (λh2=>?_)
  ·exists ⟨b,13,rfl,B1,by decide,by decide,λa H2 a0 a1 B2 u2=>?_⟩;exists ⟨b,6,rfl,B2,by decide,by decide,λc H3 c0 c1 B3 u3=>?_⟩;exists ⟨_,_,rfl,by lia,(Ez (by lia)).mono (by decide),λr H4 s4 g4=>?_⟩;obtain ⟨q,e,d,_⟩:=Fe (t:=a - 6) (b:=1+c) (W:=max w 6) (by lia) (by lia) (by lia);exact k r q _ d (bX.mk g4 e) (B3.same s4) (((u1.trans u2).trans u3).same s4)
  exists ⟨b,_,rfl,B1,by lia,by lia,λa H2 a0 a1 B2 u2=>?_⟩;exists ⟨b,_,rfl,B2,by lia,by lia,λc H3 c0 c1 B3 u3=>?_⟩;exists ⟨_,_,rfl,by lia,(Ez (by lia)).mono (by decide),λr H4 s4 g4=>?_⟩;obtain ⟨q,e,d,_⟩:=Fe (t:=a - w) (b:=1+c) (W:=max w 6) (by lia) (by lia) (by lia);exact k r q _ d (bX.mk g4 e) (B3.same s4) (((u1.trans u2).trans u3).same s4)
theorem AU:aU ["_law_bag_here","_law_many","_law_wide"] ["_law_bag_here","_law_many","_law_wide"] (aJ pP):=by walk_at "d"
theorem td (T:Txt K mg Z):cz P w K mg base fb 3 Z.wG Z.v5 ["_law_bag_here","_law_many","_law_wide"] (AN K):=by
 refine T.iH.F.ok AU (λvs H Q E h=>?_) (λcdv A outer s H vs Q E hr h=>?_)
 ·obtain ⟨b,m,w,rfl,_⟩:=h;rfl
 ·obtain ⟨b,m,w,rfl,hB,hm,w0,w1,k⟩:=h;refine ⟨_,(az (aR (bJ ["_law_k"] ["_law_bag_here","_law_wide"] [0,2] (b6 rfl T.range (ae (pv 1) ai)) (λ_=>(aK (i:=0) (show ND9 ["_law_k","_law_bag_here","_law_wide"] by decide +kernel))) (λ_=>bT) (λ_=>(cE (vE T) hr T.jB (ae (pv 1) (ae (pv 2) ai))))))),?_⟩;refine aN (σ:=[some (.ref b),some (.int m),some (.int w)]) rfl ?_;exists ⟨by lia,by lia,?_⟩;refine yy (n:=m) (bX K) (Dr (max w 6)) hB hm (λa u B=>a.upto u B) ?_ ?_
  ·rintro i H' NY NN hi u B k1;exists ⟨b,w,rfl,B,w0,w1,λr x H2 hx h2 B2 u2=>k1 _ x _ u2 B2 hx h2⟩
  ·rintro ys cs H' p hp u B g lc hc pr nx;exact k p cs H' hp ⟨ys,g,pr⟩ lc hc B u
theorem fY:aU ["_law_bag_here","_law_n","_law_way","_law_first","_law_wide","_law_move_here","_law_i","_law_row_here","_law_j"] ["_law_bag_here","_law_n","_law_way","_law_first","_law_wide"] (aJ nv):=by walk_at "d"
theorem zM (T:Txt K mg Z):cz P w K mg base fb 4 Z.tZ Z.tH ["_law_bag_here","_law_n","_law_way","_law_first","_law_wide"] (AI K):=by
 refine T.me.F.ok fY (λvs H Q E h=>?_) (λcdv A outer s H vs Q E hr h=>?_)
 ·obtain ⟨b,n,w,way,first,rfl,_⟩:=h;rfl
 ·obtain ⟨b,n,w,way,first,rfl,hB,n8,w0,w1,k⟩:=h
  refine ⟨_,(au (aX (i:=5) fY.nd rfl (Or.inl rfl) (dJ ai))
   (au (d6 PassesOwn.never rfl (b6 rfl T.range (ae (pv 1) ai)) (aK (i:=6) fY.nd)
    (au (aX (i:=7) fY.nd rfl (Or.inl rfl) (cE (td T) hr T.iH (ae (pv 0) (ae (pv 1) (ae (pv 4) ai)))))
   (au (d6 PassesOwn.never rfl (b6 rfl T.range (ae (pv 1) ai)) (aK (i:=8) fY.nd)
    (fN (cG (PW.pt (iU (a8 d9 (pv 2) ak (bp _)) (jO (a8 vw (cE (br T) hr T.aW (ae (pv 0) (ae ak ai))) ak (bp _))))) (az (eL (cy (ae ak (ae ak ai))) (fu (pv 7) (pv 8) set_list))) bL)
   (fN (cG (PW.pt (iU (a8 d9 (pv 2) ak (bp _)) (jO (a8 oM (bx eU (pv 6) ak) (pv 1) (bp _))))) (az (eL (cy (ae (d7 jh (by rfl) T.int PyProof.Rows.boot_int (ae (fD d9 (pv 8) (bx eU (pv 6) ak) (bp _)) ai)) (ae ak ai))) (fu (pv 7) (pv 8) set_list))) bL)
   (fN (cG (PW.pt (jN (PW.pt (iU (a8 d9 (pv 2) ak (bp _)) (iU (a8 xV (pv 6) (pv 3) (bp _)) (jO (a8 oM (pv 8) (pv 3) (bp _)))))) (gW (PW.pt (iU (a8 d9 (pv 2) ak (bp _)) (iU (a8 oM (pv 6) (pv 3) (bp _)) (jO (a8 xV (pv 8) (pv 3) (bp _))))))))) (az (eL (cy (ae ak (ae ak ai))) (fu (pv 7) (pv 8) set_list))) bL)
   (az (cG (a8 d9 (pv 2) ak (bp _)) (az (eL (cy (ae (bx cK (ba bM (dJ (ae ak (ae ak (ae (vo pF ak) (ae ak ai))))) (bx kn (pv 3) ak)) (d7 jh (by rfl) T.int PyProof.Rows.boot_int (ae (fD d9 (pv 6) (pv 8) (bp _)) ai))) (ae ak ai))) (fu (pv 7) (pv 8) set_list))) bL))))))
   (az (iZ (sX cJ dF dE jg (pv 5) (ae (pv 7) ai)))))))
   (az (aR (pv 5))))),?_⟩
  refine aN (σ:=[some (.ref b),some (.int n),some (.int way),some (.int first),some (.int w),none,none,none,none]) rfl ?_;have W1:1<=max w 6:=by lia
  exists dd λr H1 s1 n1 g1=>?_
  have rb:r≠b:=λz=>hB.at (by rw[<- z];exact n1)
  obtain ⟨q0,I0,xs0,gq0⟩:=hB.inner;have I1:Inner H1 b q0:=(s1.upto (p:=b)).2 _ I0;obtain ⟨A,eA⟩:∃A:Addr->Prop,A=λq=>H q=none/\q≠r:=⟨_,rfl⟩
  have nb:¬A b:=by rw[eA];exact λz=>hB.at z.1
  have nr:¬A r:=by rw[eA];exact λz=>z.2 rfl
  have nq:¬A q0:=by rw[eA];exact λz=>by have z1:=z.1;rw[gq0] at z1;cases z1
  have rq:r≠q0:=λz=>by rw[<- z,n1] at gq0;cases gq0
  exists ⟨by lia,by lia,?_⟩;refine eF (n:=n) (λi σ' H'=>∃(x1 x2 x3:Option V) (us:List V),σ'=[some (.ref b),some (.int n),some (.int way),some (.int first),some (.int w),some (.ref r),x1,x2,x3]/\H' r=some (.lst us)/\us.length=i/\us.Nodup/\(∀x∈us,dX K A H' n (Dr (max w 6)) x)/\fR H' b/\Inner H' b q0/\cF b H H') ⟨none,none,none,[],rfl,g1,rfl,j5,(λ_ z=>nomatch z),hB.same s1,I1,s1.upto⟩ ?_ ?_
  ·rintro i σ' H' hi ⟨x1,x2,x3,us,rfl,gu,lu,nd,ru,B',I',u'⟩;exists ⟨b,n,w,rfl,B',by lia,w0,w1,λp xs Ha np Ra la da Ba ua=>?_⟩;have hp0:H p=none:=u'.none B' np
   have pn:V.ref p∉us:=λz=>by
    obtain ⟨q',_,_,e',_,g',_⟩:=(ru _ z).at;cases e';rw[np] at g';cases g'
   have ap':H p=none/\p≠r:=⟨hp0,λz=>by rw[z,gu] at np;cases np⟩;have ap:A p:=by rw[eA];exact ap'
   have X0:Dz K A n (Dr (max w 6)) r p b q0 us H Ha:=⟨ua.other rb gu,λx hx=>(ru x hx).upto ua B' nb,⟨p,xs,rfl,ap,Ra,la,da⟩,Ba,ua.2 _ I',u'.trans ua⟩;clear ru Ra gu;exists ⟨by lia,by lia,?_⟩;refine eF (n:=n) (λj σ' H'=>(∃x3,σ'=[some (.ref b),some (.int n),some (.int way),some (.int first),some (.int w),some (.ref r),some (.int i),some (.ref p),x3])/\Dz K A n (Dr (max w 6)) r p b q0 us H H') ⟨⟨_,rfl⟩,X0⟩ ?_ ?_
   ·rintro j σ' Hj hj ⟨⟨x3,rfl⟩,X⟩;exists ⟨λσ' H'=>σ'=[some (.ref b),some (.int n),some (.int way),some (.int first),some (.int w),some (.ref r),some (.int i),some (.ref p),some (.int j)]/\Dz K A n (Dr (max w 6)) r p b q0 us H H',?_,?_⟩
    ·exists fK (λ_=>?_) (λ_=>?_)
     ·exists ⟨b,3,rfl,X.bag,by decide,by decide,λd Hd d0 d1 Bd ud=>?_⟩;replace X:=X.upto ud Bd nb rb
      repeat' (first | walk_at "rd" | refine fK (λ_=>?_) (λ_=>?_))
      all_goals first
       | exact ⟨rfl,X⟩
       | (refine bN λt Hb sb gb=>?_;walk_at "w";obtain ⟨zs,gz,lz,Xz⟩:=(X.same sb).put ap nr nb nq hp0 (bX.mk (q:=0) gb rfl) (nU (i:=0) (bo _) W1) j;refine dY gz (eE (by lia)) rfl ?_;exact ⟨rfl,Xz⟩)
     ·exists ⟨rfl,X⟩
    clear X;rintro σ' Hj ⟨rfl,X⟩;refine ⟨λσ' H'=>σ'=[some (.ref b),some (.int n),some (.int way),some (.int first),some (.int w),some (.ref r),some (.int i),some (.ref p),some (.int j)]/\Dz K A n (Dr (max w 6)) r p b q0 us H H',?_,?_⟩
    ·repeat' (first | walk_at "rd" | refine fK (λ_=>?_) (λ_=>?_))
     all_goals first
      | exact ⟨rfl,X⟩
      | (refine bN λt Hb sb gb=>?_;walk_at "w";obtain ⟨zs,gz,lz,Xz⟩:=(X.same sb).put ap nr nb nq hp0 (bX.mk (q:=((if decide ((j:Int)=(i:Int)+1)=true then (1:Int) else 0:Int):Rat)) gb rfl) (nU (by split <;> lia) W1) j;refine dY gz (eE (by lia)) rfl ?_;exact ⟨rfl,Xz⟩)
    clear X;rintro σ' Hj ⟨rfl,X⟩;refine ⟨λσ' H'=>σ'=[some (.ref b),some (.int n),some (.int way),some (.int first),some (.int w),some (.ref r),some (.int i),some (.ref p),some (.int j)]/\Dz K A n (Dr (max w 6)) r p b q0 us H H',?_,?_⟩
    ·repeat' (first | walk_at "rd" | refine fK (λ_=>?_) (λ_=>?_))
     all_goals first
      | exact ⟨rfl,X⟩
      | (refine bN λt Hb sb gb=>?_;walk_at "w";obtain ⟨zs,gz,lz,Xz⟩:=(X.same sb).put ap nr nb nq hp0 (bX.mk (q:=0) gb rfl) (nU (i:=0) (bo _) W1) j;refine dY gz (eE (by lia)) rfl ?_;exact ⟨rfl,Xz⟩)
    clear X;rintro σ' Hj ⟨rfl,X⟩;exists fK (λ_=>?_) (λ_=>?_)
    ·exists dd λl0 Hc sc nc gc=>?_
     walk_at "w";obtain ⟨x,ex,mx,_⟩:=jF (xs:=[V.int 2,V.int 1,V.int (-1),V.int 0]) (i:=first % 4) (jc _ (by decide)) (by have:=fF first (show (0:Int) < 4 by decide);simpa using this)
     obtain ⟨z,rfl,hz⟩:∃z:Int,x=.int z/\z.natAbs<=2:=by
      simp only[aE,aO,or_false] at mx;rcases mx with rfl | rfl | rfl | rfl
      ·exact ⟨2,rfl,by decide⟩
      ·exact ⟨1,rfl,by decide⟩
      ·exact ⟨-1,rfl,by decide⟩
      ·exact ⟨0,rfl,by decide⟩
     refine cg (bD.of gc) ex ?_;exists eK (Dt (by lia) (by lia)) ?_;exists bN λt Hb sb gb=>?_
     walk_at "w";obtain ⟨zs,gz,lz,Xz⟩:=((X.same sc).same sb).put ap nr nb nq hp0 (bX.mk (q:=((z*(if decide ((i:Int)=(j:Int))=true then (1:Int) else 0):Int):Rat)) gb rfl) (nU (by split <;> lia) W1) j;refine dY gz (eE (by lia)) rfl ?_;exact ⟨⟨_,rfl⟩,Xz⟩
    ·exists ⟨⟨_,rfl⟩,X⟩
   ·rintro σ' Hj ⟨⟨x3,rfl⟩,X⟩;exists ⟨.inl ⟨rfl,_,bD.of X.gr⟩,?_⟩;exists jf X.gr (bc (by lia)) ?_;refine ⟨_,_,_,us++[.ref p],rfl,aH,by simp [lu],lY nd pn,λx hx=>?_,X.bag.upd X.inn rb rq,X.inn.upd rb,X.up.after n1⟩;rcases ax.mp hx with hx | hx
    ·exact (X.ru x hx).other X.gr nr
    ·have e:x=V.ref p:=by simpa using hx
     rw[e];exact X.rp.other X.gr nr
  ·rintro σ' H' ⟨x1,x2,x3,us,rfl,gu,lu,nd,ru,B',I',u'⟩;exists k r us H' n1 gu lu nd (by rw[eA] at ru;exact ru) B' u'
theorem c8:aU ["_law_bag_here","_law_n","_law_ins","_law_outs","_law_wide","_law_way","_law_first","_law_move_here","_law_put","_law_look","_law_k","_law_row_here"] ["_law_bag_here","_law_n","_law_ins","_law_outs","_law_wide"] (aJ lE):=by walk_at "d"
theorem xv (T : Txt K mg Z) : cz P w K mg base fb 5 Z.rE Z.qX ["_law_bag_here", "_law_n", "_law_ins", "_law_outs", "_law_wide"] (xI K) := by
  have jY := br (P := P) (w := w) (base := base) T;have By := zM (P := P) (w := w) (base := base) T;have wV := td (P := P) (w := w) (base := base) T;have An := oO (P := P) (w := w) (base := base) T;refine T.kz.F.ok c8 (λvs H Q E h => ?_) (λcdv A outer s H vs Q E hr h => ?_)
  · obtain ⟨b, n, i, o, w, c, rfl, _⟩ := h;rfl
  · obtain ⟨b, n, i, o, w, c, rfl, hB, n8, i4, o4, w0, w1, hc, hc20, hcM, k⟩ := h
    refine ⟨_, (au (aX (i := 5) c8.nd rfl (Or.inl rfl) (cE jY hr T.aW (ae (pv 0) (ae ak ai))))
      (au (aX (i := 6) c8.nd rfl (Or.inl rfl) (cE jY hr T.aW (ae (pv 0) (ae (bx eU (pv 1) ak) ai))))
      (au (aX (i := 7) c8.nd rfl (Or.inl rfl) (cE By hr T.me (ae (pv 0) (ae (pv 1) (ae (pv 5) (ae (pv 6) (ae (pv 4) ai)))))))
      (au (ik 8 ["_law_k"] ["_law_bag_here", "_law_n", "_law_wide"] [0, 1, 4] c8.nd rfl rfl (b6 rfl T.range (ae (pv 2) ai)) (λ_ => (aK (i := 0) (show List.Nodup (α := PySem.Str) ["_law_k", "_law_bag_here", "_law_n", "_law_wide"] by decide +kernel))) (λ_ => bT) (λ_ => (cE wV hr T.iH (ae (pv 1) (ae (pv 2) (ae (pv 3) ai))))))
      (au (ik 9 ["_law_k"] ["_law_bag_here", "_law_n", "_law_wide"] [0, 1, 4] c8.nd rfl rfl (b6 rfl T.range (ae (pv 3) ai)) (λ_ => (aK (i := 0) (show List.Nodup (α := PySem.Str) ["_law_k", "_law_bag_here", "_law_n", "_law_wide"] by decide +kernel))) (λ_ => bT) (λ_ => (cE wV hr T.iH (ae (pv 1) (ae (pv 2) (ae (pv 3) ai))))))
      (au (d6 PassesOwn.never rfl (b6 rfl T.range (ae (pv 1) ai)) (aK (i := 10) c8.nd)
        (au (d6 PassesOwn.never rfl (bV (pv 8)) (aK (i := 11) c8.nd)
        (az (cG (PW.pt (jN (PW.pt (iU (a8 d9 (pv 5) ak (bp _)) (jO (a8 xV (pv 10) (pv 6) (bp _))))) (gW (PW.pt (iU (a8 d9 (pv 5) ak (bp _)) (iU (a8 oM (bx eU (pv 10) ak) (pv 1) (bp _)) (jO (a8 d9 (cE jY hr T.aW (ae (pv 0) (ae ak ai))) ak (bp _))))))))) (az (eL (cy (ae ak (ae ak ai))) (fu (pv 11) (pv 10) set_list))) bL)))
      (az (d6 PassesOwn.never rfl (bV (pv 9)) (aK (i := 11) c8.nd)
        (az (cG (PW.pt (jN (PW.pt (iU (a8 d9 (pv 5) ak (bp _)) (jO (a8 xV (pv 10) (pv 6) (bp _))))) (gW (PW.pt (iU (a8 d9 (pv 5) ak (bp _)) (iU (a8 vw (pv 10) ak (bp _)) (jO (a8 d9 (cE jY hr T.aW (ae (pv 0) (ae ak ai))) ak (bp _))))))))) (az (eL (cy (ae ak (ae ak ai))) (fu (pv 11) (pv 10) set_list))) bL))))))
      (az (aR (cE An hr T.iq (ae (pv 0) (ae (pv 7) (ae (pv 8) (ae (pv 9) ai))))))))))))), ?_⟩
    refine aN (σ := [some (.ref b), some (.int n), some (.int i), some (.int o), some (.int w), none, none, none, none, none, none, none]) rfl ?_;have W1 : 1 ≤ max w 6 := by lia
    obtain ⟨q0, I0, xs0, gq0⟩ := hB.inner;exists ⟨b, 6, rfl, hB, by decide, by decide, λway H1 a0 a1 B1 u1 => ?_⟩;exists ⟨b, _, rfl, B1, by lia, by lia, λfirst H2 f0 f1 B2 u2 => ?_⟩;have u02 := u1.trans u2;exists ⟨b, n, w, way, first, rfl, B2, n8, w0, w1, λm us H3 nm0 gm lm ndm rm B3 u3 => ?_⟩;have u03 := u02.trans u3;exists ⟨by lia, by lia, ?_⟩;refine yz (n := i) (b := b) (cA K H3) (λxs => xs.length = n /\ ∀ x ∈ xs, Dr (max w 6) x) B3 (by lia) (λa u B => a.upto u B B3.at) (λ⟨q, e, _, _, g, _⟩ => ⟨q, e, by rw [g]; exact λz => nomatch z⟩) ?_ ?_
    · rintro s H' NY NN hi u B k1;exists ⟨b, n, w, rfl, B, by lia, w0, w1, λr xs H2 nr R lx dx B2 u2 => k1 _ xs _ u2 B2 ⟨lx, dx⟩ ⟨r, rfl, u.none B nr, R⟩ ⟨r, rfl, nr⟩⟩
    rintro ws puts H4 p np u4 B4 gp lp ndp hp pr4 nx4;have u04 := u03.trans u4;exists ⟨by lia, by lia, ?_⟩;refine yz (n := o) (b := b) (cA K H4) (λxs => xs.length = n /\ ∀ x ∈ xs, Dr (max w 6) x) B4 (by lia) (λa u B => a.upto u B B4.at) (λ⟨q, e, _, _, g, _⟩ => ⟨q, e, by rw [g]; exact λz => nomatch z⟩) ?_ ?_
    · rintro s H' NY NN hi u B k1;exists ⟨b, n, w, rfl, B, by lia, w0, w1, λr xs H2 nr R lx dx B2 u2 => k1 _ xs _ u2 B2 ⟨lx, dx⟩ ⟨r, rfl, u.none B nr, R⟩ ⟨r, rfl, nr⟩⟩
    rintro vs looks H5 l nl u5 B5 gl ll ndl hl pr5 nx5;have u05 := u04.trans u5;have hm0 : H m = none := u02.none B2 nm0;have hp0 : H p = none := u03.none B3 np;have hl0 : H l = none := u04.none B4 nl;have mb : m ≠ b := λz => B2.at (by rw [<- z]; exact nm0)
    have pb : p ≠ b := λz => B3.at (by rw [<- z]; exact np)
    have lb : l ≠ b := λz => B4.at (by rw [<- z]; exact nl)
    have gm4 := u4.other mb gm;have gm5 := u5.other mb gm4;have gp5 := u5.other pb gp;have mp : m ≠ p := λz => by rw [z, np] at gm; cases gm
    have ml : m ≠ l := λz => by rw [z, nl] at gm4; cases gm4
    have pl : p ≠ l := λz => by rw [z, nl] at gp; cases gp
    have mq : m ≠ q0 := λz => Inner.at B2 (u02.2 _ I0) (by rw [<- z]; exact nm0)
    obtain ⟨A, eA⟩ : ∃ A : Addr → Prop, A = λq => H q = none /\ q ≠ m /\ q ≠ p /\ q ≠ l := ⟨_, rfl⟩
    have mkA : ∀ {q}, H q = none → q ≠ m → q ≠ p → q ≠ l → A q := λh1 h2 h3 h4 => by rw [eA]; exact ⟨h1, h2, h3, h4⟩
    have unA : ∀ {q}, A q → H q = none /\ q ≠ m /\ q ≠ p /\ q ≠ l := λh => by rw [eA] at h; exact h
    have MA : Bx A m p l b q0 := ⟨λz => (unA z).2.1 rfl, λz => (unA z).2.2.1 rfl, λz => (unA z).2.2.2 rfl, λz => hB.at (unA z).1, (λz => by have z1 := (unA z).1; rw [gq0] at z1; cases z1), mb, pb, lb, mp, ml, mq⟩;clear eA;have lws : ws.length = i := by rw [<- pr4.length]; exact lp
    have lvs : vs.length = o := by rw [<- pr5.length]; exact ll
    have alM : ∀ q, V.ref q ∈ us → H3 q ≠ none /\ q ≠ b /\ H4 q ≠ none := λq hq => by
      obtain ⟨q', qs, e, ⟨a1, a2⟩, r, z⟩ := rm _ hq;cases e;have qb : q ≠ b := λy => B2.at (by rw [<- y]; exact a1)
      obtain ⟨xq, gq, _⟩ := id r;obtain ⟨xq4, gq4, _⟩ := r.upto u4 B3 qb;exact ⟨(by rw [gq]; exact λz => nomatch z), qb, (by rw [gq4]; exact λz => nomatch z)⟩
    have alP : ∀ q, V.ref q ∈ ws → H3 q = none /\ H4 q ≠ none := λq hq => by
      obtain ⟨_, _, q', e, a, _, g, _⟩ := cC pr4 hq;cases e;exact ⟨a, by rw [g]; exact λz => nomatch z⟩
    have alL : ∀ q, V.ref q ∈ vs → H4 q = none := λq hq => by
      obtain ⟨_, _, q', e, a, _⟩ := cC pr5 hq;cases e;exact a
    have isR : ∀ x, x ∈ us \/ x ∈ ws \/ x ∈ vs → ∃ q, x = V.ref q := λx hx => by
      rcases hx with hx | hx | hx
      · obtain ⟨q, _, e, _⟩ := rm x hx; exact ⟨q, e⟩
      · obtain ⟨_, _, q, e, _⟩ := cC pr4 hx; exact ⟨q, e⟩
      · obtain ⟨_, _, q, e, _⟩ := cC pr5 hx; exact ⟨q, e⟩
    have nd : (us ++ vs ++ ws).Nodup := by
      refine cV.mpr ⟨cV.mpr ⟨ndm, ndl, λx hx y hy e => ?_⟩, ndp, λx hx y hy e => ?_⟩
      · subst e;obtain ⟨q, rfl⟩ := isR x (.inl hx);exact (alM q hx).2.2 (alL q hy)
      · subst e;obtain ⟨q, rfl⟩ := isR x (.inr (.inl hy));rcases ax.mp hx with hx | hx
        · exact (alM q hx).1 (alP q hy).1
        · exact (alP q hy).2 (alL q hx)
    have X5 : Cv K A n (Dr (max w 6)) m p l b q0 us ws vs H H5 := by
      refine ⟨⟨B5, u05.2 _ I0, gm5, gp5, gl, lm, λx hx => ?_, nd⟩, gp5, gl, λc u e n1 _ _ => u05.1 c u e n1⟩;rcases ax.mp hx with hx | hx
      · rcases ax.mp hx with hx | hx
        · obtain ⟨q, qs, e, ⟨a1, a2⟩, r, z⟩ := rm x hx;obtain ⟨xq, gq, _⟩ := id r;have qb : q ≠ b := λy => B2.at (by rw [<- y]; exact a1)
          have r4 := r.upto u4 B3 qb;obtain ⟨xq4, gq4, _⟩ := id r4;exact ⟨q, qs, e, mkA (u02.none B2 a1) a2 (λy => by rw [y, np] at gq; cases gq) (λy => by rw [y, nl] at gq4; cases gq4), r4.upto u5 B4 qb, z⟩
        · refine EK (A := A) pr5 hl (λq hq a b' => ?_) x hx;exact mkA (u04.none B4 a) (λy => by rw [y, gm4] at a; cases a) (λy => by rw [y, gp] at a; cases a) (λy => fz nx5 (by rw [<- y]; exact hq))
      · refine dX.upto (EK (A := A) pr4 hp (λq hq a b' => ?_) x hx) u5 B4 MA.ab;exact mkA (u03.none B3 a) (λy => by rw [y, gm] at a; cases a) (λy => fz nx4 (by rw [<- y]; exact hq)) (λy => b' (by rw [y]; exact nl))
    clear alM alP alL isR rm pr4 pr5 nx4 nx5 gm gm4 gm5 gp gp5 gl hp hl;exists ⟨by lia, by lia, ?_⟩;refine eF (n := n) (λkk σ' H' => (∃ x1 x2, σ' = [some (.ref b), some (.int n), some (.int i), some (.int o), some (.int w), some (.int way), some (.int first), some (.ref m), some (.ref p), some (.ref l), x1, x2]) /\ Cv K A n (Dr (max w 6)) m p l b q0 us ws vs H H') ⟨⟨_, _, rfl⟩, X5⟩ ?_ ?_
    · rintro kk σ' Hj hk ⟨⟨x1, x2, rfl⟩, X⟩;exists ⟨⟨_, bD.of X.gp⟩, ?_⟩;refine iI (K := K) (a := p) (xs := ws) (λs σ' H' => (∃ x2, σ' = [some (.ref b), some (.int n), some (.int i), some (.int o), some (.int w), some (.int way), some (.int first), some (.ref m), some (.ref p), some (.ref l), some (.int kk), x2]) /\ Cv K A n (Dr (max w 6)) m p l b q0 us ws vs H H') ⟨⟨_, rfl⟩, X⟩ (λs σ' H' _ ⟨_, e⟩ => bD.of e.gp) ?_ ?_
      · rintro s x σ' Hk hx ⟨⟨y2, rfl⟩, X⟩;have mx := av hx;obtain ⟨q, _, rfl, _⟩ := X.row (.inl mx)
        repeat' (first | walk_at "rd" | refine fK (λ_ => ?_) (λ_ => ?_))
        all_goals first
          | exact ⟨⟨_, rfl⟩, X⟩
          | (refine bN λt Hb sb gb => ?_; walk_at "w"; obtain ⟨zs, gz, lz, Xz⟩ := (X.same sb).put MA (.inl mx) (bX.mk (q := 0) gb rfl) (nU (i := 0) (bo _) W1) kk; refine dY gz (eE (by lia)) rfl ?_; exact ⟨⟨_, rfl⟩, Xz⟩)
          | (refine ⟨b, 2, rfl, X.mix.bag, by decide, by decide, λd Hd d0 d1 Bd ud => ?_⟩
             replace X := X.upto MA ud Bd
             repeat' (first | walk_at "rd" | refine fK (λ_ => ?_) (λ_ => ?_))
             all_goals first
               | exact ⟨⟨_, rfl⟩, X⟩
               | (refine bN λt Hb sb gb => ?_
                  walk_at "w";obtain ⟨zs, gz, lz, Xz⟩ := (X.same sb).put MA (.inl mx) (bX.mk (q := 0) gb rfl) (nU (i := 0) (bo _) W1) kk;refine dY gz (eE (by lia)) rfl ?_;exact ⟨⟨_, rfl⟩, Xz⟩))
      · rintro σ' Hk ⟨⟨y2, rfl⟩, X⟩;exists ⟨⟨_, bD.of X.gl⟩, ?_⟩;refine iI (K := K) (a := l) (xs := vs) (λs σ' H' => (∃ x2, σ' = [some (.ref b), some (.int n), some (.int i), some (.int o), some (.int w), some (.int way), some (.int first), some (.ref m), some (.ref p), some (.ref l), some (.int kk), x2]) /\ Cv K A n (Dr (max w 6)) m p l b q0 us ws vs H H') ⟨⟨_, rfl⟩, X⟩ (λs σ' H' _ ⟨_, e⟩ => bD.of e.gl) ?_ ?_
        · rintro s x σ' Hk hx ⟨⟨y2, rfl⟩, X⟩;have mx := av hx;obtain ⟨q, _, rfl, _⟩ := X.row (.inr mx)
          repeat' (first | walk_at "rd" | refine fK (λ_ => ?_) (λ_ => ?_))
          all_goals first
            | exact ⟨⟨_, rfl⟩, X⟩
            | (refine bN λt Hb sb gb => ?_; walk_at "w"; obtain ⟨zs, gz, lz, Xz⟩ := (X.same sb).put MA (.inr mx) (bX.mk (q := 0) gb rfl) (nU (i := 0) (bo _) W1) kk; refine dY gz (eE (by lia)) rfl ?_; exact ⟨⟨_, rfl⟩, Xz⟩)
            | (refine ⟨b, 2, rfl, X.mix.bag, by decide, by decide, λd Hd d0 d1 Bd ud => ?_⟩
               replace X := X.upto MA ud Bd
               repeat' (first | walk_at "rd" | refine fK (λ_ => ?_) (λ_ => ?_))
               all_goals first
                 | exact ⟨⟨_, rfl⟩, X⟩
                 | (refine bN λt Hb sb gb => ?_
                    walk_at "w";obtain ⟨zs, gz, lz, Xz⟩ := (X.same sb).put MA (.inr mx) (bX.mk (q := 0) gb rfl) (nU (i := 0) (bo _) W1) kk;refine dY gz (eE (by lia)) rfl ?_;exact ⟨⟨_, rfl⟩, Xz⟩))
        · rintro σ' Hk ⟨⟨y2, rfl⟩, X⟩;exact ⟨⟨_, _, rfl⟩, X⟩
    · rintro σ' Hj ⟨⟨x1, x2, rfl⟩, X⟩
      obtain ⟨M1, M2, M3, V0, a1, a2, a3, V2, hcs, R1, R2, R3⟩ : ∃ M1 M2 M3 V0 : Nat, (0 < M1 /\ M1 ≤ 2 ^ 800) /\ (0 < M2 /\ M2 ≤ 2 ^ 800) /\ (0 < M3 /\ M3 ≤ 2 ^ 800) /\ V0 ≤ 2 ^ 20 /\ ((w ≤ 9 /\ M1 = 2520 /\ M2 = 2520 /\ M3 = 2520 /\ V0 = 9) \/ (9 < w /\ M1 ≤ 2 ^ (c * (n * n)) /\ M2 ≤ 2 ^ (c * (i * n)) /\ M3 ≤ 2 ^ (c * (o * n)) /\ V0 = 2 ^ c)) /\ (∀ x ∈ us, dX K A Hj n (Fr M1 V0) x) /\ (∀ x ∈ ws, dX K A Hj n (Fr M2 V0) x) /\ ∀ x ∈ vs, dX K A Hj n (Fr M3 V0) x := by
        by_cases w9 : w ≤ 9
        · have XM := X.mix.weak (C' := λ_ => Fr 2520 9) λ_ _ y h => Kg ⟨aj h.1 (by lia), aj h.2 (by lia)⟩ (Nat.dvd_refl _)
          have z : 0 < 2520 /\ 2520 ≤ 2 ^ 800 := ⟨by decide, aj (show 2520 ≤ 2 ^ 12 by decide) (ar (by decide) (by decide))⟩;exact ⟨2520, 2520, 2520, 9, z, z, z, by decide, .inl ⟨w9, rfl, rfl, rfl, rfl⟩, λx hx => XM.row x (by simp [hx]), λx hx => XM.row x (by simp [hx]), λx hx => XM.row x (by simp [hx])⟩
        · obtain ⟨M1, M2, M3, a1, a2, a3, b1, b2, b3, R1, R2, R3⟩ := (X.mix.weak (C' := λ_ => Dr (2 ^ c)) λ_ _ y h => ⟨aj h.1 hc, aj h.2 hc⟩).fr3;rw [lws] at b2;rw [lvs] at b3;have up : ∀ {M k : Nat}, M ≤ 2 ^ (c * k) → k ≤ (n + i + o) * n → M ≤ 2 ^ 800 := λh hk => aj h (ar (by decide) (aj (cv _ hk) hcM))
          exact ⟨M1, M2, M3, 2 ^ c, ⟨a1, up b1 (aB _ (by lia))⟩, ⟨a2, up b2 (aB _ (by lia))⟩, ⟨a3, up b3 (aB _ (by lia))⟩, ar (by decide) hc20, .inr ⟨by lia, b1, b2, b3, rfl⟩, R1, R2, R3⟩
      obtain ⟨μ, e2, e3, e1, e4⟩ := E5 ws vs M1 M2 M3;obtain ⟨ap1, ap2⟩ := X.mix.apart
      have XM : gM K A Hj n (λx => Fr (μ x) V0) m p l b q0 us ws vs := by
        refine ⟨X.mix.bag, X.mix.inn, X.mix.gm, X.mix.gp, X.mix.gl, X.mix.lm, λx hx => ?_, X.mix.nd⟩;rcases ax.mp hx with hx | hx
        · rcases ax.mp hx with hx | hx
          · rw [e1 x (ap1 x hx).1 (ap1 x hx).2]; exact R1 x hx
          · rw [e3 x hx (ap2 x hx)]; exact R3 x hx
        · rw [e2 x hx]; exact R2 x hx
      have p1 : ∀ x, 0 < μ x := λx => by
        rcases e4 x with e | e | e
        · rw [e]; exact a1.1
        · rw [e]; exact a2.1
        · rw [e]; exact a3.1
      have p2 : ∀ x, μ x ≤ 2 ^ 800 := λx => by
        rcases e4 x with e | e | e
        · rw [e]; exact a1.2
        · rw [e]; exact a2.2
        · rw [e]; exact a3.2
      have gmj := X.mix.gm;exists ⟨b, m, p, l, q0, n, V0, μ, A, us, ws, vs, rfl, MA, XM, n8, by lia, by lia, p1, p2, ⟨M1, e1⟩, V2, λq hq => ?_, λr us' H' g Y kp => ?_⟩
      · refine mkA ?_ (λz => by rw [z, gmj] at hq; cases hq) (λz => by rw [z, X.gp] at hq; cases hq) (λz => by rw [z, X.gl] at hq; cases hq);cases e : H q with
        | none => rfl
        | some u =>
          have := X.kp q u e (λz => X.mix.bag.at (by rw [<- z]; exact hq)) (λz => by have := (unA z).1; rw [e] at this; cases this) (λz => by rw [z, hm0] at e; cases e);rw [hq] at this; cases this
      · obtain ⟨yp1, yp2⟩ := Y.apart;obtain ⟨mv, Gm, lmv, hmv⟩ := ic (H0 := H) (n := n) (C := Fr M1 (9 ^ 3 * V0)) (m := n) ⟨us', Y.gm, Y.lm, MA.am, λx hx => by have := Y.row x (by simp [hx]); rwa [e1 x (yp1 x hx).1 (yp1 x hx).2] at this⟩ λq h => (unA h).1
        obtain ⟨pt, Gp, lpt, hpt⟩ := ic (H0 := H) (n := n) (C := Fr M2 (9 ^ 3 * V0)) (m := i) ⟨ws, Y.gp, lws, MA.ap, λx hx => by have := Y.row x (by simp [hx]); rwa [e2 x hx] at this⟩ λq h => (unA h).1
        obtain ⟨lk, Gl, llk, hlk⟩ := ic (H0 := H) (n := n) (C := Fr M3 (9 ^ 3 * V0)) (m := o) ⟨vs, Y.gl, lvs, MA.al, λx hx => by have := Y.row x (by simp [hx]); rwa [e3 x hx (yp2 x hx)] at this⟩ λq h => (unA h).1
        refine k r mv pt lk H' ⟨m, p, l, g, hm0, hp0, hl0, Gm, Gp, Gl⟩ lmv lpt llk ⟨by lia, by lia, by lia, λxs hx => by rw [(hmv xs hx).1, lmv], λxs hx => by rw [(hpt xs hx).1, lmv], λxs hx => by rw [(hlk xs hx).1, lmv]⟩ ⟨M1, M2, M3, 9 ^ 3 * V0, a1.1, a2.1, a3.1, λxs hx => (hmv xs hx).2, λxs hx => (hpt xs hx).2, λxs hx => (hlk xs hx).2, ?_⟩ Y.bag ⟨λc' u e n1 => (X.kp.trans kp) c' u e n1 (λz => by have := (unA z).1; rw [e] at this; cases this) (λz => by rw [z, hm0] at e; cases e), λq h => by rw [<- Inner.inj I0 h]; exact Y.inn⟩;rcases hcs with ⟨b1, b2, b3, b4, b5⟩ | ⟨b1, b2, b3, b4, b5⟩
        · exact .inl ⟨b1, b2, b3, b4, by rw [b5]⟩
        · exact .inr ⟨b1, b2, b3, b4, by rw [b5]⟩
theorem eS:aU ["_law_bag_here","_law_n","_law_ins","_law_outs","_law_wide"] ["_law_bag_here"] (aJ kf):=by walk_at "d"
theorem vD (T:Txt K mg Z):cz P w K mg base fb 6 Z.o8 Z.oU ["_law_bag_here"] (Gx K):=by
 refine T.jA.F.ok eS (λvs H Q E h=>?_) (λcdv A outer s H vs Q E hr h=>?_)
 ·obtain ⟨b,rfl,_⟩:=h;rfl
 ·obtain ⟨b,rfl,hB,k⟩:=h
  refine ⟨_,(au (eL (cE (xu T) hr T.ky (ae (pv 0) ai)) (zy rfl (c4 (aK (i:=1) eS.nd) (c4 (aK (i:=2) eS.nd) (c4 (aK (i:=3) eS.nd) (c4 (aK (i:=4) eS.nd) jP))))))
   (au (cG (a8 d9 (cE (br T) hr T.aW (ae (pv 0) (ae ak ai))) ak (bp _)) (au (cG (a8 d9 (cE (br T) hr T.aW (ae (pv 0) (ae ak ai))) ak (bp _)) (az (aR (cy (ae (cE (qH T) hr T.gF (ae (pv 0) ai)) (ae ak ai))))) bL)
   (az (aR (cy (ae (cE (lT T) hr T.gG (ae (pv 0) (ae (bx eU ak (cE (br T) hr T.aW (ae (pv 0) (ae ak ai)))) ai))) (ae ak ai)))))) bL)
   (az (aR (cy (ae (cE (xv T) hr T.kz (ae (pv 0) (ae (pv 1) (ae (pv 2) (ae (pv 3) (ae (pv 4) ai)))))) (ae (bA (oy rfl) (by rfl) T.min PyProof.Rows.boot_min (ae (pv 4) (ae ak ai))) ai))))))),?_⟩
  refine aN (σ:=[some (.ref b),none,none,none,none]) rfl ?_;have sf:∀{mv pt lk:LR9} {M V1:Nat},0 < M->M<=2^400->V1<=2^30->GF M V1 mv->GF M V1 pt->GF M V1 lk->Kk mv pt lk:=λh0 h1 h2 a b c=>⟨_,_,h0,h1,aj h2 (ar (by decide) (by decide)),a,b,c⟩
  exists ⟨b,rfl,hB,λr n i o w H1 g1 n5 i4 o4 hw h5 B1 u1=>?_⟩;exists ⟨b,16,rfl,B1,by decide,by decide,λv H2 v0 v1 B2 u2=>?_⟩;have u02:=u1.trans u2;exists fK (λh0=>?_) (λh0=>?_)
  ·exists ⟨b,2,rfl,B2,by decide,by decide,λv2 H3 _ _ B3 u3=>?_⟩;have u03:=u02.trans u3;exists fK (λh1=>?_) (λh1=>?_)
   ·exists ⟨b,rfl,B3,λr4 mv pt lk H4 P4 l6 D fm fp fl B4 u4=>?_⟩;exists bN λt H5 s5 g5=>?_
    exact k t r4 4 0 13 mv pt lk H5 g5 ((P4.weak λq h=>u03.none B3 h).same s5) D (sf (by decide) cu (by decide) fm fp fl) (uy (n0:=8) (by decide) (by decide) D.n8 (by decide) fm fp (by decide)) (.inl ⟨by decide,by decide,by decide,by decide,by decide,fm,fp,aj (aB _ (show mv.length+4<=12 by have:=D.n8;lia)) (by decide)⟩) (by decide) (by decide) (B4.same s5) ((u03.trans u4).same s5)
   ·exists ⟨b,3,rfl,B3,by decide,by decide,λv3 H4 v30 v31 B4 u4=>?_⟩;obtain ⟨v3,rfl⟩:=fo v30;have u04:=u03.trans u4;walk_at "w";rw[show ((6:Int)+(v3:Int))=((6+v3:Nat):Int) by lia];refine ⟨b,6+v3,rfl,B4,by lia,by lia,λr4 mv pt lk H5 P5 lm _ _ D fm fp fl B5 u5=>?_⟩;exists bN λt H6 s6 g6=>?_
    exact k t r4 4 0 4 mv pt lk H6 g6 ((P5.weak λq h=>u04.none B4 h).same s6) D (sf (by decide) cu (by decide) fm fp fl) (uy (n0:=8) (by decide) (by decide) D.n8 (by decide) fm fp (by decide)) (.inl ⟨by decide,by decide,by decide,by decide,by decide,(λxs hx x hx'=>(fm xs hx x hx').mono (by decide)),(λxs hx x hx'=>(fp xs hx x hx').mono (by decide)),aj (aB _ (show mv.length+4<=12 by have:=D.n8;lia)) (by decide)⟩) (by decide) (by decide) (B5.same s6) ((u04.trans u5).same s6)
  ·obtain ⟨c,hc,hc20,hcM⟩:∃c:Nat,max w 6<=2^c/\c<=20/\c*((n+i+o)*n)<=800/\(9 < w->c=20/\(n+i+o)*n<=20/\n<=2):=by
    have m1:(n+i+o)*n<=13*5:=aP (by lia) n5;rcases hw with rfl | rfl | ⟨rfl,n2⟩
    ·exact ⟨4,by decide,by decide,by lia,λz=>by lia⟩
    ·exact ⟨4,by decide,by decide,by lia,λz=>by lia⟩
    ·have m2:(n+i+o)*n<=10*2:=aP (by lia) n2;exact ⟨20,by decide,by decide,by lia,λ_=>⟨rfl,by lia,n2⟩⟩
   obtain ⟨hcM,hbig⟩:=hcM;exists ⟨b,n,i,o,w,c,rfl,B2,by lia,i4,o4,by lia,by lia,hc,hc20,hcM,λr4 mv pt lk H4 P4 lm lp ll D PF B4 u4=>?_⟩;have hmin:(if (1000:Int) < (w:Int) then (1000:Int) else (w:Int))=((min w 1000:Nat):Int):=by split <;> lia
   have PG:=PF;obtain ⟨M,V1,M0,fm,fp,fl,hcs⟩:=PF.n
   obtain ⟨a',c',KF,SF⟩:∃a' c',oF mv pt a' c'/\Kk mv pt lk:=by
    rcases hcs with ⟨w9,rfl,rfl⟩ | ⟨w9,M1,rfl⟩
    ·exact ⟨12,16,uy (n0:=5) (by decide) (by decide) (by lia) (by decide) fm fp (by decide),sf (by decide) (aj (show 2520<=2^12 by decide) (ar (by decide) (by decide))) (by decide) fm fp fl⟩
    ·obtain ⟨rfl,e1,e2⟩:=hbig w9;have M4:M<=2^400:=aj M1 (ar (by decide) (by lia));exact ⟨400,32,uy (n0:=2) M0 M4 (by lia) (by decide) fm fp (by decide),sf M0 M4 (by decide) fm fp fl⟩
   have RG:Rg mv pt (min w 1000):=by
    obtain ⟨M1,M2,M3,V1,a1,a2,a3,f1,f2,f3,hc'⟩:=PG;rcases hc' with ⟨w9,rfl,rfl,_,rfl⟩ | ⟨w9,b1,b2,_,rfl⟩
    ·exact .inr (.inl ⟨by lia,by lia,by decide,by decide,by decide,by decide,f1,f2,aj (aB _ (show mv.length+4<=9 by lia)) (by decide)⟩)
    ·obtain ⟨rfl,e1,e2⟩:=hbig w9;have q1:n*n<=2*2:=aP e2 e2;have q2:i*n<=4*2:=aP i4 e2;have w6:w=1000000:=by lia
     exact .inr (.inr ⟨by lia,by lia,M1,M2,a1,a2,aj b1 (ar (by decide) (by lia)),aj b2 (ar (by decide) (by lia)),f1,f2,aj (aB _ (show mv.length+4<=6 by lia)) (by decide)⟩)
   exists bN λt H5 s5 g5=>?_
   rw[hmin] at g5;exact k t r4 (min w 1000) a' c' mv pt lk H5 g5 ((P4.weak λq h=>u02.none B2 h).same s5) D SF KF RG (by lia) (by lia) (B4.same s5) ((u02.trans u4).same s5)
theorem zb:aU ["thing","at","most"] ["thing","at","most"] (aJ m4):=by walk_at "d"
theorem lO (T:Txt K mg Z):cz P w K mg base fb 1 Z.tQ Z.tm ["thing","at","most"] CK:=by
 refine T.gC.F.ok zb (λvs H Q E h=>?_) (λcdv A outer s H vs Q E hr h=>?_)
 ·obtain ⟨p,xs,a,m,rfl,_⟩:=h;rfl
 ·obtain ⟨p,xs,a,m,rfl,gx,hm,k⟩:=h
  refine ⟨_,(au (cG (iV (gi (sF rfl T.isinstance PyProof.Rows.boot_list T.list (pv 0)))) (az CT) bL)
   (az (cG (a8 vw (bA a9 (by rfl) T.len aT (ae (pv 0) ai)) (pv 2) (bp _)) (az CT) bL))),?_⟩
  refine aN (σ:=[some (.ref p),some (.int a),some (.int m)]) rfl ?_;exists ⟨_,_,.lst gx,rfl,?_⟩;exists ⟨_,_,rfl,.inl (bD.of gx),?_⟩;walk_at "w";rw[decide_eq_false (show ¬m < (xs.length:Int) by lia)];exists k
theorem AR:aU ["thing"] ["thing"] (aJ pM):=by walk_at "d"
theorem sZ (T:Txt K mg Z):cz P w K mg base fb 1 Z.wC Z.vX ["thing"] DJ:=by
 refine T.jT.F.ok AR (λvs H Q E h=>?_) (λcdv A outer s H vs Q E hr h=>?_)
 ·obtain ⟨i,rfl,_⟩:=h;rfl
 ·obtain ⟨i,rfl,k⟩:=h;refine ⟨_,(az (aR (zD (sF rfl T.isinstance PyProof.Rows.boot_int T.int (pv 0)) (zA (JM (sF rfl T.isinstance PyProof.Rows.boot_bool T.bool (pv 0))))))),?_⟩;refine aN (σ:=[some (.int i)]) rfl ?_;exists ⟨_,_,.int i,rfl,?_⟩;exists ⟨_,_,.int i,rfl,?_⟩;exists k
theorem eO:aU ["one","other","rest"] ["one","other"] (aJ gR):=by walk_at "d"
theorem gB (T:Txt K mg Z):cz P w K mg base fb 1 Z.kN Z.kK ["one","other"] KS:=by
 refine T.dN.F.ok eO (λvs H Q E h=>?_) (λcdv A outer s H vs Q E hr h=>?_)
 ·obtain ⟨a,b,rfl,_⟩:=h;rfl
 ·obtain ⟨a,b,rfl,k⟩:=h
  refine ⟨_,(au (vg PassesOwn.never (a8 qG (pv 1) ak (bp _))
    (au (aX (i:=2) eO.nd rfl (Or.inl rfl) (bx HD (pv 0) (pv 1)))
   (au (aX (i:=0) eO.nd rfl (Or.inl rfl) (pv 1))
   (az (aX (i:=1) eO.nd rfl (Or.inl rfl) (pv 2))))))
   (az (aR (bA wg (by rfl) T.abs PyProof.Rows.boot_abs (ae (pv 0) ai))))),?_⟩
  refine aN (σ:=[some (.int a),some (.int b),none]) rfl ?_;exists yU (λσ' H'=>∃(u v:Int) (r:Option V),σ'=[some (.int u),some (.int v),r]/\H'=H/\Int.gcd u v=Int.gcd a b) (λσ' _=>match σ' with | [_,some (.int v),_]=>v.natAbs | _=>0) ⟨a,b,none,rfl,rfl,rfl⟩ ?_;rintro σ' H' ⟨u,v,r,rfl,rfl,hg⟩;exists fK (λh=>?_) (λh=>?_)
  ·have hv:v≠0:=λz=>by subst z;simp at h
   exists eK (show v≠0 from hv) ?_;exists ⟨⟨v,u.fmod v,_,rfl,rfl,(Fv u v).trans hg⟩,HM u v hv⟩
  ·have hv:v=0:=by
    by_cases z:v=0
    ·exact z
    ·exfalso;apply h;simp [z]
   subst hv;walk_at "w"
   have e:(if u < 0 then -u else u)=g a b:=by
    unfold g;rw[<- hg,Int.gcd_zero_right]
    split <;> lia
   rw[e];exact k
theorem zf:aU ["thing"] ["thing"] (aJ m7):=by walk_at "d"
theorem zI (T:Txt K mg Z):cz P w K mg base fb 2 Z.tT Z.tx ["thing"] (DN K):=by
 refine T.l8.F.ok zf (λvs H Q E h=>?_) (λcdv A outer s H vs Q E hr h=>?_)
 ·obtain ⟨x,n,rfl,_⟩:=h;rfl
 ·obtain ⟨x,n,rfl,⟨p,rfl,hp⟩,hn,k⟩:=h
  refine ⟨_,(au (cG (PW.pt (jN (iV (gi (oq rfl T.isinstance PyProof.Rows.boot_tuple T.tuple (pv 0)))) (gW (a8 qG (bA a9 (by rfl) T.len aT (ae (pv 0) ai)) ak (bp _))))) (az (aR jQ)) bL)
   (au (cG (PW.pt (jN (iV (gi (cE (sZ T) hr T.jT (ae (ba bW (pv 0) ak) ai)))) (gW (iV (gi (cE (sZ T) hr T.jT (ae (ba bW (pv 0) ak) ai))))))) (az (aR jQ)) bL)
   (az (aR (zD (fD xV (ba bW (pv 0) ak) ak (bp _)) (zA (fD d9 (cE (gB T) hr T.dN (ae (ba bW (pv 0) ak) (ae (ba bW (pv 0) ak) ai))) ak (bp _)))))))),?_⟩
  refine aN (σ:=[some (.ref p)]) rfl ?_;obtain ⟨hb,hg,s1,s2⟩:=hn;exists .inr ⟨p,_,_,rfl,hp,rfl,?_⟩;exists ⟨_,_,rfl,.inr hp,?_⟩;walk_at "w"
  try refine Fj ?_
  exists ⟨n.1,rfl,?_⟩;exists ⟨n.2,rfl,?_⟩;walk_at "w";rw[decide_eq_true (show (1:Int)<=n.2 by lia)];exists ⟨n.1,n.2,rfl,?_⟩;walk_at "w";have e:g n.1 n.2=1:=by unfold g;rw[hg];rfl
  rw[e,decide_eq_true rfl];exact k _ (aF.refl _)
theorem DQ:aU ["thing","many"] ["thing","many"] (aJ va):=by walk_at "d"
theorem DX (T:Txt K mg Z):cz P w K mg base fb 3 Z.Bv Z.Bn ["thing","many"] (rQ K):=by
 refine T.sH.F.ok DQ (λvs H Q E h=>?_) (λcdv A outer s H vs Q E hr h=>?_)
 ·obtain ⟨p,ns,rfl,_⟩:=h;rfl
 ·obtain ⟨p,ns,rfl,hp,hl,hn,k⟩:=h
  refine ⟨_,(au (cG (PW.pt (jN (iV (gi (sF rfl T.isinstance PyProof.Rows.boot_list T.list (pv 0)))) (gW (a8 qG (bA a9 (by rfl) T.len aT (ae (pv 0) ai)) (pv 1) (bp _))))) (az (aR jQ)) bL)
   (az (aR (bA (we rfl) (by rfl) T.all PyProof.Rows.boot_all (ae (bJ ["value"] [] [] (bV (pv 0)) (λ_=>(aK (i:=0) (show ND9 ["value"] by decide +kernel))) (λ_=>bT) (λ_=>(cE (zI T) hr T.l8 (ae (pv 0) ai)))) ai))))),?_⟩
  refine aN (σ:=[some (.ref p),some (.int ns.length)]) rfl ?_;obtain ⟨xs,gx,qx⟩:=id hp;have lx:=qx.length;exists ⟨_,_,.lst gx,rfl,?_⟩;exists ⟨_,_,rfl,.inl (bD.of gx),?_⟩;walk_at "w";rw[show ((xs.length:Nat):Int)=(ns.length:Nat) by rw[lx],decide_eq_true rfl];exists ⟨⟨_,bD.of gx⟩,?_⟩;refine cW (K:=K) (xs:=xs) (λi ys H'=>aF H H'/\ys=List.replicate i (.bl true)) (aL (bc (by lia))) ⟨aF.refl _,rfl⟩ (λi ys H' _ ⟨s,_⟩=>bD.of (s _ _ gx)) ?_ ?_
  ·rintro i x ys H' hx hlen ⟨s,rfl⟩;obtain ⟨n,en,z⟩:=cw qx hx;exists ⟨x,n,rfl,s.num z,hn n (av en),λH2 s2=>⟨s.trans s2,by rw[yQ]⟩⟩
  ·rintro ys H' hy ⟨s,rfl⟩ l hl';exists ⟨l,List.replicate xs.length true,rfl,bD.of (by rw[aH];simp),?_⟩;have e4:(List.replicate xs.length true).all id=true:=by simp
   rw[e4];exact k _ (s.trans (aF.new hl'))
theorem jm:aU ["things","wide","place","thing"] ["things","wide"] (aJ ke):=by walk_at "d"
theorem jv (T:Txt K mg Z):cz P w K mg base fb 4 Z.o7 Z.oT ["things","wide"] (CP K):=by
 refine T.eX.F.ok jm (λvs H Q E h=>?_) (λcdv A outer s H vs Q E hr h=>?_)
 ·obtain ⟨p,H0,rows,w,rfl,_⟩:=h;rfl
 ·obtain ⟨p,H0,rows,w,rfl,hp,hl,hw,hn,k⟩:=h
  refine ⟨_,(au (d6 PassesOwn.never rfl (CV rfl T.enumerate (ae (pv 0) ai)) (zy rfl (c4 (aK (i:=2) jm.nd) (c4 (aK (i:=3) jm.nd) jP)))
    (az (cG (iV (gi (cE (DX T) hr T.sH (ae (pv 3) (ae (pv 1) ai))))) (az CT) bL)))
   (az (aR (bJ ["row"] [] [] (bV (pv 0)) (λ_=>(aK (i:=0) (show ND9 ["row"] by decide +kernel))) (λ_=>bT) (λ_=>(d7 (iB K (by rfl)) (by rfl) T.list PyProof.Rows.boot_list (ae (pv 0) ai))))))),?_⟩
  refine aN (σ:=[some (.ref p),some (.int w),none,none]) rfl ?_;obtain ⟨xs,gx,qx,_⟩:=id hp;exists ⟨⟨_,bD.of gx⟩,?_⟩;refine FC (K:=K) (l:=p) (xs:=xs) (λi σ' H'=>aF H H'/\∃x y,σ'=[some (.ref p),some (.int w),x,y]) ⟨aF.refl _,none,none,rfl⟩ (λi σ' H' _ ⟨s,_⟩=>bD.of (s _ _ gx)) ?_ ?_
  ·rintro i x σ' H' t hx ⟨s,x1,y1,rfl⟩ ht;obtain ⟨qs,eq,q,rfl,_,Rq⟩:=cw qx hx;have hm:=av eq;have st:aF H' (upd H' t (.tup [.int i,.ref q])):=aF.new ht;have gt:(upd H' t (.tup [.int i,.ref q])) t=some (.tup [.int i,.ref q]):=aH;have s2:=s.trans st;generalize upd H' t (.tup [.int i,.ref q])=H2 at st gt s2 ⊢;have lq:(qs.map nm).length=w:=by rw[ag];exact (hn qs hm).1
   exists ⟨q,_,by rw[lq],(Rq.same s2).rowK,by rw[lq];exact hw,λn hn'=>?_,λH3 s3=>?_⟩
   ·obtain ⟨y,hy,rfl⟩:=ay.mp hn';exact (hn qs hm).2 y hy
   exists ⟨s2.trans s3,_,_,rfl⟩
  ·rintro σ' H' ⟨s,x1,y1,rfl⟩;exists ⟨⟨_,bD.of (s _ _ gx)⟩,?_⟩;refine cO (K:=K) (F:=cA K H0) (cA K H) id (s _ _ gx) (Paired.imp' (λ_ _ z=>z.same s) qx) hl (λa b=>a.same b) (λa b=>a.same b) ?_ ?_
   ·rintro i ns x H2 NY NN en s2 ⟨u,rfl,_,zs,gz,qz⟩ k1;exists ⟨u,zs,rfl,.inl (bD.of gz),λl1 hl1=>?_⟩;exact k1 _ _ (aF.new hl1) ⟨l1,rfl,s.none (s2.none hl1),zs,aH,Paired.imp' (λ_ _ z=>z.same (aF.new hl1)) qz⟩
   ·rintro ys' H2 r hr s2 g pr nx;rw[rL] at pr nx;exact k r H2 (s.none hr) (s.trans s2) ⟨ys',g,pr,fz nx⟩
theorem pK:aU ["self","move","put","look"] ["self","move","put","look"] (aJ df):=by walk_at "d"
theorem jx (T:Txt K mg Z):cz P w K mg base fb 5 Z.gK Z.gI ["self","move","put","look"] (CN K Z.a_System):=by
 refine T.jZ.ok pK (λvs H Q E h=>?_) (λcdv A outer s H vs Q E hr h=>?_)
 ·obtain ⟨x,dx,p,q,r,Hb,H0,H1,H2,mv,pt,lk,rfl,_⟩:=h;rfl
 ·obtain ⟨x,dx,p,q,r,Hb,H0,H1,H2,mv,pt,lk,rfl,nx,ndx,nex,rfl,gp,gq,gr,D,om,op,ol,k⟩:=h
  refine ⟨_,(au (iZ (cE (lO T) hr T.gC (ae (pv 1) (ae ak (ae (ot (v:=.int 8) rfl T.mg_MOST_STATES ⟨_,rfl⟩) ai)))))
   (au (sD (pv 0) (cE (jv T) hr T.eX (ae (pv 1) (ae (bA a9 (by rfl) T.len aT (ae (pv 1) ai)) ai))) rfl)
   (au (sD (pv 0) (bA a9 (by rfl) T.len aT (ae (eT (pv 0) rfl) ai)) rfl)
   (au (iZ (cE (lO T) hr T.gC (ae (pv 2) (ae ak (ae (ot (v:=.int 4) rfl T.mg_MOST_PUTS ⟨_,rfl⟩) ai)))))
   (au (sD (pv 0) (cE (jv T) hr T.eX (ae (pv 2) (ae (eT (pv 0) rfl) ai))) rfl)
   (au (sD (pv 0) (bA a9 (by rfl) T.len aT (ae (eT (pv 0) rfl) ai)) rfl)
   (au (iZ (cE (lO T) hr T.gC (ae (pv 3) (ae ak (ae (ot (v:=.int 4) rfl T.mg_MOST_LOOKS ⟨_,rfl⟩) ai)))))
   (au (sD (pv 0) (cE (jv T) hr T.eX (ae (pv 3) (ae (eT (pv 0) rfl) ai))) rfl)
   (az (sD (pv 0) (bA a9 (by rfl) T.len aT (ae (eT (pv 0) rfl) ai)) rfl)))))))))),?_⟩
  refine aN (σ:=[some (.ref x),some (.ref p),some (.ref q),some (.ref r)]) rfl ?_
  have s0:aF Hb (upd (upd Hb dx (.own x)) x (.ins Z.a_System dx [])):=λb o e=>by
   rw[a7 (dS e nx),a7 (dS e ndx)];exact e
  have hx:(upd (upd Hb dx (.own x)) x (.ins Z.a_System dx [])) x=some (.ins Z.a_System dx []):=aH;have back:∀{b},(upd (upd Hb dx (.own x)) x (.ins Z.a_System dx [])) b=none->Hb b=none:=λh=>s0.none h
  generalize upd (upd Hb dx (.own x)) x (.ins Z.a_System dx [])=Ha at s0 hx back ⊢;obtain ⟨xs,gx,qx,_⟩:=id gp;obtain ⟨ys,gy,qy,_⟩:=id gq;obtain ⟨zs,gz,qz,_⟩:=id gr;have lx:=qx.length;have ly:=qy.length;have lz:=qz.length;have d1:=D.n8;have d2:=D.i4;have d3:=D.o4;exists ⟨p,xs,0,8,rfl,s0 _ _ gx,by lia,?_⟩;exists ⟨_,_,rfl,.inl (bD.of (s0 _ _ gx)),?_⟩;exists ⟨p,H0,mv,mv.length,by rw[lx],gp.same s0,by lia,by lia,λws hw=>⟨D.mw ws hw,om ws hw⟩,λa H3 na s3 Ga=>?_⟩;have hx3:=s3 _ _ hx;exists ⟨x,Z.a_System,dx,_,rfl,hx3,T.cl_System,T.na_move,(by show 0 < 1000;decide),?_⟩;have e3:Ao x H3 (upd H3 x (.ins Z.a_System dx (bU "move" (.ref a) []))):=Ao.upd;have i3:pz H3 x:=⟨_,_,_,hx3⟩;have hx4:(upd H3 x (.ins Z.a_System dx (bU "move" (.ref a) []))) x=some (.ins Z.a_System dx (bU "move" (.ref a) [])):=aH;have Ga4:=Ga.exc e3 i3;have k4:aF Hb (upd H3 x (.ins Z.a_System dx (bU "move" (.ref a) []))):=(s0.trans s3).after nx;generalize upd H3 x (.ins Z.a_System dx (bU "move" (.ref a) []))=H4 at e3 hx4 Ga4 k4 ⊢;exists ⟨x,Z.a_System,dx,_,_,rfl,hx4,T.cl_System,T.na_move,(by rw[bE,if_pos rfl]),?_⟩;obtain ⟨as,ga,qa,_⟩:=id Ga4;have la:=qa.length;exists ⟨_,_,rfl,.inl (bD.of ga),?_⟩;exists ⟨x,Z.a_System,dx,_,rfl,hx4,T.cl_System,T.na_states,aV dh (by show 1 < 1000;decide),?_⟩;rw[show ((as.length:Nat):Int)=((mv.length:Nat):Int) by rw[la]];have e4:Ao x H4 (upd H4 x (.ins Z.a_System dx (bU "states" (.int mv.length) (bU "move" (.ref a) [])))):=Ao.upd;have i4:pz H4 x:=⟨_,_,_,hx4⟩;have hx5:(upd H4 x (.ins Z.a_System dx (bU "states" (.int mv.length) (bU "move" (.ref a) [])))) x=some (.ins Z.a_System dx (bU "states" (.int mv.length) (bU "move" (.ref a) []))):=aH;have Ga5:=Ga4.exc e4 i4;have k5:aF Hb (upd H4 x (.ins Z.a_System dx (bU "states" (.int mv.length) (bU "move" (.ref a) [])))):=k4.after nx;generalize upd H4 x (.ins Z.a_System dx (bU "states" (.int mv.length) (bU "move" (.ref a) [])))=H5 at e4 hx5 Ga5 k5 ⊢;clear e3 e4 i3 i4 hx4 Ga4 ga qa;exists ⟨q,ys,1,4,rfl,k5 _ _ gy,by lia,?_⟩;exists ⟨x,Z.a_System,dx,_,_,rfl,hx5,T.cl_System,T.na_states,(by rw[bE,if_pos rfl]),?_⟩;exists ⟨q,H1,pt,mv.length,rfl,gq.same k5,by lia,by lia,λws hw=>⟨D.pw ws hw,op ws hw⟩,λb H6 nb s6 Gb=>?_⟩;have hx6:=s6 _ _ hx5;have i6:pz H6 x:=⟨_,_,_,hx6⟩;exists ⟨x,Z.a_System,dx,_,rfl,hx6,T.cl_System,T.na_put,aV dh (aV (cP dh) (by show 2 < 1000;decide)),?_⟩;have e6:Ao x H6 (upd H6 x (.ins Z.a_System dx (bU "put" (.ref b) (bU "states" (.int mv.length) (bU "move" (.ref a) []))))):=Ao.upd;have hx7:(upd H6 x (.ins Z.a_System dx (bU "put" (.ref b) (bU "states" (.int mv.length) (bU "move" (.ref a) []))))) x=some (.ins Z.a_System dx (bU "put" (.ref b) (bU "states" (.int mv.length) (bU "move" (.ref a) [])))):=aH;have Ga7:=(Ga5.same s6).exc e6 i6;have Gb7:=(Gb.weak k5).exc e6 i6;have k7:aF Hb (upd H6 x (.ins Z.a_System dx (bU "put" (.ref b) (bU "states" (.int mv.length) (bU "move" (.ref a) []))))):=(k5.trans s6).after nx;generalize upd H6 x (.ins Z.a_System dx (bU "put" (.ref b) (bU "states" (.int mv.length) (bU "move" (.ref a) []))))=H7 at e6 hx7 Ga7 Gb7 k7 ⊢;obtain ⟨bs,gb,qb,_⟩:=id Gb7;have lb:=qb.length;exists ⟨x,Z.a_System,dx,_,_,rfl,hx7,T.cl_System,T.na_put,(by rw[bE,if_pos rfl]),?_⟩;exists ⟨_,_,rfl,.inl (bD.of gb),?_⟩;exists ⟨x,Z.a_System,dx,_,rfl,hx7,T.cl_System,T.na_ins,aV dh (aV (cP (aj dh (cP dh))) (by show 3 < 1000;decide)),?_⟩;rw[show ((bs.length:Nat):Int)=((pt.length:Nat):Int) by rw[lb]];have i7:pz H7 x:=⟨_,_,_,hx7⟩;have e7:Ao x H7 (upd H7 x (.ins Z.a_System dx (bU "ins" (.int pt.length) (bU "put" (.ref b) (bU "states" (.int mv.length) (bU "move" (.ref a) [])))))):=Ao.upd;have hx8:(upd H7 x (.ins Z.a_System dx (bU "ins" (.int pt.length) (bU "put" (.ref b) (bU "states" (.int mv.length) (bU "move" (.ref a) [])))))) x=some (.ins Z.a_System dx (bU "ins" (.int pt.length) (bU "put" (.ref b) (bU "states" (.int mv.length) (bU "move" (.ref a) []))))):=aH;have Ga8:=Ga7.exc e7 i7;have Gb8:=Gb7.exc e7 i7;have k8:aF Hb (upd H7 x (.ins Z.a_System dx (bU "ins" (.int pt.length) (bU "put" (.ref b) (bU "states" (.int mv.length) (bU "move" (.ref a) [])))))):=k7.after nx;generalize upd H7 x (.ins Z.a_System dx (bU "ins" (.int pt.length) (bU "put" (.ref b) (bU "states" (.int mv.length) (bU "move" (.ref a) [])))))=H8 at e7 hx8 Ga8 Gb8 k8 ⊢;clear e6 e7 i6 i7 hx7 Ga7 Gb7 gb qb;exists ⟨r,zs,2,4,rfl,k8 _ _ gz,by lia,?_⟩;exists ⟨x,Z.a_System,dx,_,_,rfl,hx8,T.cl_System,T.na_states,(by rw[bE,if_neg (by decide +kernel),bE,if_neg (by decide +kernel),bE,if_pos rfl]),?_⟩;exists ⟨r,H2,lk,mv.length,rfl,gr.same k8,by lia,by lia,λws hw=>⟨D.lw ws hw,ol ws hw⟩,λc H9 nc s9 Gc=>?_⟩;have hx9:=s9 _ _ hx8;have i9:pz H9 x:=⟨_,_,_,hx9⟩;exists ⟨x,Z.a_System,dx,_,rfl,hx9,T.cl_System,T.na_look,aV dh (aV (cP (aj dh (cP (aj dh (cP dh))))) (by show 4 < 1000;decide)),?_⟩;have e9:Ao x H9 (upd H9 x (.ins Z.a_System dx (bU "look" (.ref c) (bU "ins" (.int pt.length) (bU "put" (.ref b) (bU "states" (.int mv.length) (bU "move" (.ref a) []))))))):=Ao.upd;have hxA:(upd H9 x (.ins Z.a_System dx (bU "look" (.ref c) (bU "ins" (.int pt.length) (bU "put" (.ref b) (bU "states" (.int mv.length) (bU "move" (.ref a) []))))))) x=some (.ins Z.a_System dx (bU "look" (.ref c) (bU "ins" (.int pt.length) (bU "put" (.ref b) (bU "states" (.int mv.length) (bU "move" (.ref a) [])))))):=aH;have GaA:=(Ga8.same s9).exc e9 i9;have GbA:=(Gb8.same s9).exc e9 i9;have GcA:=(Gc.weak k8).exc e9 i9;have kA:aF Hb (upd H9 x (.ins Z.a_System dx (bU "look" (.ref c) (bU "ins" (.int pt.length) (bU "put" (.ref b) (bU "states" (.int mv.length) (bU "move" (.ref a) []))))))):=(k8.trans s9).after nx;generalize upd H9 x (.ins Z.a_System dx (bU "look" (.ref c) (bU "ins" (.int pt.length) (bU "put" (.ref b) (bU "states" (.int mv.length) (bU "move" (.ref a) []))))))=HA at e9 hxA GaA GbA GcA kA ⊢;obtain ⟨cs,gc,qc,_⟩:=id GcA;have lc:=qc.length;exists ⟨x,Z.a_System,dx,_,_,rfl,hxA,T.cl_System,T.na_look,(by rw[bE,if_pos rfl]),?_⟩;exists ⟨_,_,rfl,.inl (bD.of gc),?_⟩;exists ⟨x,Z.a_System,dx,_,rfl,hxA,T.cl_System,T.na_outs,aV dh (aV (cP (aj dh (cP (aj dh (cP (aj dh (cP dh))))))) (by show 5 < 1000;decide)),?_⟩;rw[show ((cs.length:Nat):Int)=((lk.length:Nat):Int) by rw[lc]];have iA:pz HA x:=⟨_,_,_,hxA⟩;exact k _ (kA.after nx) ⟨dx,a,b,c,aH,back na,k5.none nb,k8.none nc,(GaA.exc Ao.upd iA).weak s0,GbA.exc Ao.upd iA,GcA.exc Ao.upd iA⟩
theorem uZ:aU ["_law_grid"] ["_law_grid"] (aJ ki):=by walk_at "d"
theorem jw (T:Txt K mg Z):cz P w K mg base fb 1 Z.ph Z.oX ["_law_grid"] (uV K):=by
 refine T.eY.F.ok uZ (λvs H Q E h=>?_) (λcdv A outer s H vs Q E hr h=>?_)
 ·obtain ⟨p,H0,rows,rfl,_⟩:=h;rfl
 ·obtain ⟨p,H0,rows,rfl,hp,hl,hm,k⟩:=h;refine ⟨_,(az (aR (bJ ["_law_row_here"] [] [] (bV (pv 0)) (λ_=>(aK (i:=0) (show ND9 ["_law_row_here"] by decide +kernel))) (λ_=>bT) (λ_=>(d7 (iB K (by rfl)) (by rfl) T.list PyProof.Rows.boot_list (ae (pv 0) ai)))))),?_⟩;refine aN (σ:=[some (.ref p)]) rfl ?_;obtain ⟨xs,gx,qx,_⟩:=id hp;exists ⟨⟨_,bD.of gx⟩,?_⟩;refine cO (K:=K) (F:=cA K H0) (cA K H) id gx qx hl (λa b=>a.same b) (λa b=>a.same b) ?_ ?_
  ·rintro i ns x H' NY NN en s ⟨u,rfl,_,zs,gz,qz⟩ k1;exists ⟨u,zs,rfl,.inl (bD.of gz),λl1 hl1=>?_⟩;exact k1 _ _ (aF.new hl1) ⟨l1,rfl,s.none hl1,zs,aH,Paired.imp' (λ_ _ z=>z.same (aF.new hl1)) qz⟩
  ·rintro ys' H' r hr s g pr nx;rw[rL] at pr nx;exact k r H' hr s ⟨ys',g,pr,fz nx⟩
theorem zm:aU ["_law_parts_here"] ["_law_parts_here"] (aJ nA):=by walk_at "d"
theorem zN (T:Txt K mg Z):cz P w K mg base fb 7 Z.t7 Z.tI ["_law_parts_here"] (uN K Z.a_System):=by
 refine T.mh.F.ok zm (λvs H Q E h=>?_) (λcdv A outer s H vs Q E hr h=>?_)
 ·obtain ⟨r,H0,mv,pt,lk,rfl,_⟩:=h;rfl
 ·obtain ⟨r,H0,mv,pt,lk,rfl,PQ,D,F,k⟩:=h;refine ⟨_,(az (aR (CW T.mk_System (jx T) (hr.mono (by decide)) rfl T.mg_System T.gJ .nil EW (ae (cE (jw T) hr T.eY (ae (ba bW (pv 0) ak) ai)) (ae (cE (jw T) hr T.eY (ae (ba bW (pv 0) ak) ai)) (ae (cE (jw T) hr T.eY (ae (ba bW (pv 0) ak) ai)) ai)))))),?_⟩;refine aN (σ:=[some (.ref r)]) rfl ?_;obtain ⟨m,p,l,g,n1,n2,n3,Gm,Gp,Gl⟩:=id PQ;have d1:=D.n8;have d2:=D.i4;have d3:=D.o4;exists ⟨m,H0,mv,rfl,Gm,by lia,λxs hx=>by rw[D.mw xs hx];lia,λa H1 na s1 Ga=>?_⟩;have g1:=s1 _ _ g;exists ⟨p,H0,pt,rfl,Gp.same s1,by lia,λxs hx=>by rw[D.pw xs hx];lia,λb H2 nb s2 Gb=>?_⟩;have s12:=s1.trans s2;have g2:=s12 _ _ g;exists ⟨l,H0,lk,rfl,Gl.same s12,by lia,λxs hx=>by rw[D.lw xs hx];lia,λc H3 nc s3 Gc=>?_⟩;have s13:=s12.trans s3;walk_at "w";intro x dx nx ndx nex;exact ⟨x,dx,a,b,c,H3,H,H1,H2,mv,pt,lk,rfl,nx,ndx,nex,rfl,(Ga.same s2).same s3,Gb.same s3,Gc,D,F.ok.1,F.ok.2.1,F.ok.2.2,λH' s' S'=>⟨rfl,k x H' (s13.none nx) (s13.trans s') (S'.weak s13)⟩⟩
theorem zh:aU ["_law_one","_law_other"] ["_law_one","_law_other"] (aJ ng):=by walk_at "d"
theorem zK (T:Txt K mg Z):cz P w K mg base fb 2 Z.tW Z.tE ["_law_one","_law_other"] (uO K):=by
 refine T.ma.F.ok zh (λvs H Q E h=>?_) (λcdv A outer s H vs Q E hr h=>?_)
 ·obtain ⟨p,q,a,b,c,d,rfl,hp,hq,hb,hd,hc,sa,sb,sc,sd,k⟩:=A1 h;rfl
 ·obtain ⟨p,q,a,b,c,d,rfl,hp,hq,hb,hd,hc,sa,sb,sc,sd,k⟩:=A1 h
  refine ⟨_,(au (cG (a8 oM (ba bW (pv 1) ak) ak (bp _)) (az (aR (cE (eo T) hr T.dt (ae (bx gY ak (bx cK (ba bW (pv 0) ak) (ba bW (pv 1) ak))) (ae (bx gY ak (bx cK (ba bW (pv 0) ak) (ba bW (pv 1) ak))) ai))))) bL)
   (az (aR (cE (eo T) hr T.dt (ae (bx cK (ba bW (pv 0) ak) (ba bW (pv 1) ak)) (ae (bx cK (ba bW (pv 0) ak) (ba bW (pv 1) ak)) ai)))))),?_⟩
  refine aN (σ:=[some (.ref p),some (.ref q)]) rfl ?_;have sbc:Sz 8999 (b*c):=(sb.mul sc).mono (by decide);exists fK (λh=>?_) (λh=>?_)
  ·have h0:c < 0:=of_decide_eq_true h;have hbc:b*c < 0:=p7 hb h0;exists eK (show fe _ _ from .inr ⟨_,_,sa,sd,by decide⟩) ?_;exists eK (show fe _ _ from .inr ⟨_,_,sb,sc,by decide⟩) ?_;exists ⟨_,_,rfl,by lia,by rw[Int.zero_sub];exact sbc.neg,λr H' s' h'=>?_⟩;exact k r H' s' (by rw[if_pos h0,if_pos h0];exact h')
  ·have h0:¬c < 0:=λz=>h (decide_eq_true z)
   have hbc:0 < b*c:=gQ hb (by lia);exists eK (show fe _ _ from .inr ⟨_,_,sa,sd,by decide⟩) ?_;exists eK (show fe _ _ from .inr ⟨_,_,sb,sc,by decide⟩) ?_;exists ⟨_,_,rfl,hbc,sbc,λr H' s' h'=>?_⟩;exact k r H' s' (by rw[if_neg h0,if_neg h0];exact h')
theorem zo:aU ["_law_one","_law_other"] ["_law_one","_law_other"] (aJ nC):=by walk_at "d"
theorem zO (T:Txt K mg Z):cz P w K mg base fb 2 Z.t9 Z.tK ["_law_one","_law_other"] (mY K (λx y=>x - y)):=by
 refine T.mi.F.ok zo (λvs H Q E h=>?_) (λcdv A outer s H vs Q E hr h=>?_)
 ·obtain ⟨p,q,a,b,c,d,rfl,hp,hq,hb,hd,sa,sb,sc,sd,k⟩:=CG h;rfl
 ·obtain ⟨p,q,a,b,c,d,rfl,hp,hq,hb,hd,sa,sb,sc,sd,k⟩:=CG h;refine ⟨_,(az (aR (cE (eo T) hr T.dt (ae (bx gY (bx cK (ba bW (pv 0) ak) (ba bW (pv 1) ak)) (bx cK (ba bW (pv 1) ak) (ba bW (pv 0) ak))) (ae (bx cK (ba bW (pv 0) ak) (ba bW (pv 1) ak)) ai))))),?_⟩;refine aN (σ:=[some (.ref p),some (.ref q)]) rfl ?_;have hbd:0 < b*d:=gQ hb hd;have sbd:Sz 8999 (b*d):=(sb.mul sd).mono (by decide);exists eK (show fe _ _ from .inr ⟨_,_,sa,sd,by decide⟩) ?_;exists eK (show fe _ _ from .inr ⟨_,_,sc,sb,by decide⟩) ?_;exists eK (show fe _ _ from .inr ⟨_,_,sb,sd,by decide⟩) ?_;walk_at "w";exists ⟨_,_,rfl,hbd,sbd,k⟩
theorem xl:aU ["_law_one","_law_other"] ["_law_one","_law_other"] (aJ lG):=by walk_at "d"
theorem oP (T:Txt K mg Z):cz P w K mg base fb 3 Z.rG Z.qZ ["_law_one","_law_other"] (xM K):=by
 refine T.ir.F.ok xl (λvs H Q E h=>?_) (λcdv A outer s H vs Q E hr h=>?_)
 ·obtain ⟨p,q,xs,ys,rfl,_⟩:=h;rfl
 ·obtain ⟨p,q,xs,ys,rfl,hp,hq,hl,hz,h1,h2,kk⟩:=h;refine ⟨_,(az (aR (bJ ["_law_k"] ["_law_one","_law_other"] [0,1] (b6 rfl T.range (ae (bA a9 (by rfl) T.len aT (ae (pv 0) ai)) ai)) (λ_=>(aK (i:=0) (show ND9 ["_law_k","_law_one","_law_other"] by decide +kernel))) (λ_=>bT) (λ_=>(cE (zO T) hr T.mi (ae (ba (eZ K (by rfl)) (pv 1) (pv 0)) (ae (ba (eZ K (by rfl)) (pv 2) (pv 0)) ai))))))),?_⟩;refine aN (σ:=[some (.ref p),some (.ref q)]) rfl ?_;obtain ⟨us,gu,qu⟩:=id hp;obtain ⟨ws,gw,qw⟩:=id hq;have lu:=qu.length;exists ⟨_,_,rfl,.inl (bD.of gu),?_⟩;exists ⟨by lia,by lia,?_⟩;refine eI (n:=us.length) (bX K) (λi=>xs.getD i 0 - ys.getD i 0) (by lia) (λa b=>a.same b) ?_ ?_
  ·rintro i H' NY NN hi s k1;have ix:i < xs.length:=by lia
   have iy:i < ys.length:=by lia
   obtain ⟨vx,ex,nx⟩:=Cg (Paired.imp' (λ_ _ z=>z.same s) qu) ix;obtain ⟨vy,ey,ny⟩:=Cg (Paired.imp' (λ_ _ z=>z.same s) qw) iy;exists cg (bD.of (s _ _ gu)) ex ?_;exists cg (bD.of (s _ _ gw)) ey ?_;exists ⟨_,_,_,_,rfl,nx,ny,h1 _ (getD_mem ix),h2 _ (getD_mem iy),λr3 H3 s3 n3=>k1 _ _ s3 n3⟩
  ·rintro ys' H' l hl' s g pr nx;exact kk l H' hl' s ⟨ys',g,by rw[BE (by lia)];rw[<- lu] at pr;exact pr⟩
theorem dm:aU ["_law_rows","_law_wide","_law_left","_law_found","_law_place","_law_heads","_law_head"] ["_law_rows","_law_wide"] (aJ nD):=by walk_at "d"
theorem zP (T:Txt K mg Z):cz P w K mg base fb 4 Z.uc Z.tL ["_law_rows","_law_wide"] (uQ K):=by
 refine T.mo.F.ok dm (λvs H Q E h=>?_) (λcdv A outer s H vs Q E hr h=>?_)
 ·obtain ⟨p,n,S,H0,rows,rfl,_⟩:=h;rfl
 ·obtain ⟨p,n,S,H0,rows,rfl,G,r100,n100,hw,⟨e39,J,j0,jskip,jlean,jlw,jsz⟩,k⟩:=h
  refine ⟨_,(au (aX (i:=2) dm.nd rfl (Or.inr rfl) (bJ ["_law_row_here"] [] [] (bV (pv 0)) (λ_=>(aK (i:=0) (show ND9 ["_law_row_here"] by decide +kernel))) (λ_=>bT) (λ_=>(d7 (iB K (by rfl)) (by rfl) T.list PyProof.Rows.boot_list (ae (pv 0) ai)))))
   (au (aX (i:=3) dm.nd rfl (Or.inl rfl) (dJ ai))
   (au (d6 PassesOwn.never rfl (b6 rfl T.range (ae (pv 1) ai)) (aK (i:=4) dm.nd rfl (Or.inr rfl) (Or.inl rfl))
    (au (ik 5 ["_law_k"] ["_law_left","_law_place"] [2,4] dm.nd rfl rfl (b6 rfl T.range (ae (bA a9 (by rfl) T.len aT (ae (pv 2) ai)) ai)) (λ_=>(aK (i:=0) (show ND9 ["_law_k","_law_left","_law_place"] by decide +kernel))) (λ_=>zz (a8 (zG K (by rfl) (vR hr)) (ba (eZ K (by rfl)) (ba (eZ K (by rfl)) (pv 1) (pv 0)) (pv 2)) (cy (ae ak (ae ak ai))) (bp _))) (λ_=>(pv 0)))
   (az (cG (a8 (pU (vR hr)) (pv 5) (dJ ai) (bp _)) (au (aX (i:=6) dm.nd rfl (Or.inr rfl) (sX cJ PySem.F.slot_list_pop PySem.F.type_list_pop E6 (pv 2) (ae (ba bM (pv 5) ak) ai)))
   (au (aX (i:=6) dm.nd rfl (Or.inr rfl) (cE (lV T) hr T.ia (ae (cE (zK T) hr T.ma (ae (cy (ae ak (ae ak ai))) (ae (ba bM (pv 6) (pv 4)) ai))) (ae (pv 6) ai))))
   (au (aX (i:=2) dm.nd rfl (Or.inr rfl) (bJ ["_law_row_here"] ["_law_place","_law_head"] [4,6] (bV (pv 2)) (λ_=>(aK (i:=0) (show ND9 ["_law_row_here","_law_place","_law_head"] by decide +kernel))) (λ_=>bT) (λ_=>(cE (oP T) hr T.ir (ae (pv 0) (ae (cE (lV T) hr T.ia (ae (ba (eZ K (by rfl)) (pv 0) (pv 1)) (ae (pv 2) ai))) ai))))))
   (au (ik 3 ["_law_row_here"] ["_law_place","_law_head"] [4,6] dm.nd rfl rfl (bV (pv 3)) (λ_=>(aK (i:=0) (show ND9 ["_law_row_here","_law_place","_law_head"] by decide +kernel))) (λ_=>bT) (λ_=>(cE (oP T) hr T.ir (ae (pv 0) (ae (cE (lV T) hr T.ia (ae (ba (eZ K (by rfl)) (pv 0) (pv 1)) (ae (pv 2) ai))) ai)))))
   (az (iZ (sX cJ dF dE jg (pv 3) (ae (pv 6) ai)))))))) bL))))
   (az (aR (pv 3)))))),?_⟩
  refine aN (σ:=[some (.ref p),some (.int n),none,none,none,none,none]) rfl ?_;obtain ⟨xs,gx,qx,_⟩:=id G;have szT:∀{D:Nat} {x:Rat},0 < D->D<=2^S->Tp D (2^S) x->oa x:=λh0 h1 t=>uK t h0 (aj h1 (ar (by decide) (by lia))) (ar (by decide) (by lia))
  have szP:∀{D D':Nat} {x y:Rat},0 < D->0 < D'->D<=2^S->D'<=2^S->Tp D (2^S) x->Tp D' (2^S) y->oa (x*y):=λh0 h0' h1 h1' t t'=>uK (t.mul t') (cD h0 h0') (aj (aP h1 h1') (by rw[<- bI];exact ar (by decide) (by lia))) (by rw[<- bI];exact ar (by decide) (by lia))
  exists ⟨⟨_,bD.of gx⟩,?_⟩;refine cO (K:=K) (F:=cA K H0) (cA K H) id gx qx (by lia) (λa b=>a.same b) (λa b=>a.same b) ?_ ?_
  ·rintro i ns x H' NY NN en s ⟨u,rfl,_,zs,gz,qz⟩ k1;exists ⟨u,zs,rfl,.inl (bD.of gz),λl1 hl1=>?_⟩;exact k1 _ _ (aF.new hl1) ⟨l1,rfl,s.none hl1,zs,aH,Paired.imp' (λ_ _ z=>z.same (aF.new hl1)) qz⟩
  rintro ys1 H1 L hL s1 g1 pr1 nx1;rw[rL] at pr1 nx1;have GL1:bg K H H1 L rows:=⟨ys1,g1,pr1,fz nx1⟩;exists dd λfd H2 s2 nf gf=>?_
  have fdL:fd≠L:=λz=>by rw[z,g1] at nf;cases nf
  clear g1 pr1 nx1;exists ⟨by lia,by lia,?_⟩;refine eF (n:=n) (λP σ' H'=>aF H H'/\∃lp fp ls fs ps vs y1 y2 y3,σ'=[some (.ref p),some (.int n),some (.ref lp),some (.ref fp),y1,y2,y3]/\H lp=none/\H fp=none/\fp≠lp/\bg K H H' lp ls/\H' fp=some (.lst vs)/\Paired (kD K (λq=>(H q=none/\q≠fp)/\q≠lp) H') fs vs/\fs.length=ps.length/\J P (fs++ls) ps) ⟨s1.trans s2,L,fd,rows,[],[],[],_,_,_,rfl,hL,s1.none nf,fdL,GL1.same s2,gf,.nil,rfl,j0⟩ ?_ ?_
  ·rintro P σ' H' hP ⟨s',lp,fp,ls,fs,ps,vs,y1,y2,y3,rfl,nlp,nfp,fl,GL,gv,pv,hf,JI⟩;have I:=jlw _ _ _ JI;have len:=I.len;rw[aw] at len;have wide:=I.wide;obtain ⟨us,gu,qu,nu⟩:=id GL;have lu:=qu.length;have lv:=pv.length
   have szI:∀{i:Nat},i < rows.length->∀c,oa (b7 (fs++ls) i c):=λhi c=>by
    obtain ⟨D,D0,D1,D2⟩:=jsz _ _ _ JI (by lia) _ hi;exact szT D0 D1 (D2 c)
   have ez:∀i,(ls.map λr=>r.getD P 0).getD i 0=b7 ls i P:=λi=>JS
   exists ⟨_,_,rfl,.inl (bD.of gu),?_⟩;rw[<- lu];exists ⟨by lia,by lia,?_⟩;refine ie (n:=ls.length) (λi ys H''=>aF H' H''/\ys=ck (A6 (ls.map λr=>r.getD P 0) i)) (aL (bc (by lia))) ⟨aF.refl _,rfl⟩ ?_ ?_
   ·rintro i ys Hb hi hlen ⟨sb,rfl⟩;rw[j7];obtain ⟨xt,vt,et,evt,mt,qt,rfl,nqt,Rt⟩:=fH (Paired.imp' (λ_ _ z=>cA.same z sb) qu) hi;have wt:=wide xt (ax.mpr (.inr mt));obtain ⟨zs,gz,qz⟩:=id Rt;obtain ⟨vx,ex,nx⟩:=Cg qz (j:=P) (by lia);have fx:(ls.map λr=>r.getD P 0).getD i 0=xt.getD P 0:=by rw[ez];unfold b7;rw[aa (l:=ls),et];rfl
    exists cg (bD.of (sb _ _ gu)) (eG evt) ?_;exists cg (bD.of gz) ex ?_;exists bN λt0 Hc sc gc=>?_
    exists ⟨_,_,C7,xt.getD P 0,0,by decide,nx.same sc,bX.mk (q:=0) gc rfl,?_⟩;by_cases e:xt.getD P 0=0
    ·rw[decide_eq_true e];exists ⟨sb.trans sc,?_⟩;rw[uw,fx,if_neg (by simpa using e)]
    ·rw[decide_eq_false e];exists ⟨sb.trans sc,?_⟩;rw[uw,fx,if_pos e];unfold ck;rw[bH];rfl
   rintro ys Hb hy ⟨sb,rfl⟩ hd hhd;have nzm:∀c,c∈A6 (ls.map λr=>r.getD P 0) ls.length↔c < ls.length/\b7 ls c P≠0:=λc=>by rw[JQ,ez]
   generalize A6 (ls.map λr=>r.getD P 0) ls.length=hs at hy hhd nzm;have sn:aF Hb (upd Hb hd (.lst (ck hs))):=aF.new hhd;have gh:(upd Hb hd (.lst (ck hs))) hd=some (.lst (ck hs)):=aH;generalize upd Hb hd (.lst (ck hs))=Hc at sn gh ⊢;have sbc:=sb.trans sn;exists dd λem Hd sd nd gd=>?_
   exists ⟨_,_,Fh Cf,nP hs,nP [],by decide,ow (sd _ _ gh),ow gd,?_⟩;have sbd:=sbc.trans sd;by_cases e0:hs=[]
   ·subst e0;rw[decide_eq_true rfl];exists ⟨s'.trans sbd,lp,fp,ls,fs,ps,vs,_,_,_,rfl,nlp,nfp,fl,GL.same sbd,sbd _ _ gv,Paired.imp' (λ_ _ z=>kD.same z sbd) pv,hf,jskip _ _ _ JI λi h1 h2=>?_⟩;rw[aw] at h2;obtain ⟨j,rfl⟩:∃j,i=fs.length+j:=⟨i - fs.length,by lia⟩;rw[rh];by_cases z:b7 ls j P=0
    ·exact z
    ·exact absurd ((nzm j).mpr ⟨by lia,z⟩) (by simp)
   ·rw[decide_eq_false (λz=>e0 (Bg z))]
    obtain ⟨t,hs',rfl⟩:∃t hs',hs=t :: hs':=by cases hs with
     | nil=>exact absurd rfl e0
     | cons t r=>exact ⟨t,r,rfl⟩
    obtain ⟨tl,hne⟩:=(nzm t).mp (.head _);have gud:=sbd _ _ gu;obtain ⟨xt,vt,et,evt,mt,qt,rfl,nqt,Rt⟩:=fH (Paired.imp' (λ_ _ z=>cA.same z sbd) qu) tl;have ext:ls.getD t []=xt:=by rw[aa,et];rfl
    have hne':xt.getD P 0≠0:=by unfold b7 at hne;rw[ext] at hne;exact hne
    have wt:=wide xt (ax.mpr (.inr mt));have qtl:qt≠lp:=λz=>nu (by rw[<- z];exact av evt)
    exists ⟨.inl ⟨rfl,_,bD.of gud⟩,?_⟩;exists cg (bD.of (sd _ _ gh)) (eG (j:=0) rfl) ?_;exists ⟨lp,us,t,t,_,rfl,rfl,gud,by lia,by lia,PySem.StrLaws.seqIndex_nonneg (by lia) (by lia),evt,?_⟩;have s0e:aF H (upd Hd lp (.lst (us.eraseIdx t))):=(s'.trans sbd).after nlp;obtain ⟨us',gu',pu'⟩:=(GL.same sbd).toE;have eus:us'=us:=by rw[gud] at gu';cases gu';rfl
    subst eus;have ple:Paired (kD K (λq=>H q=none/\q≠lp) (upd Hd lp (.lst (us'.eraseIdx t)))) (ls.eraseIdx t) (us'.eraseIdx t):=qF (Paired.imp' (λ_ _ z=>kD.updL z gud (λq h=>h.2)) pu') t;have gle:(upd Hd lp (.lst (us'.eraseIdx t))) lp=some (.lst (us'.eraseIdx t)):=aH;have gve:(upd Hd lp (.lst (us'.eraseIdx t))) fp=some (.lst vs):=by rw[a7 fl];exact sbd _ _ gv
    have pve:Paired (kD K (λq=>(H q=none/\q≠fp)/\q≠lp) (upd Hd lp (.lst (us'.eraseIdx t)))) fs vs:=Paired.imp' (λ_ _ z=>kD.updL (kD.same z sbd) gud (λq h=>h.2)) pv;have Re:dg K (upd Hd lp (.lst (us'.eraseIdx t))) qt xt:=Rt.updL gud qtl;generalize upd Hd lp (.lst (us'.eraseIdx t))=He at s0e ple gle gve pve Re ⊢;clear pu' gu' gud Rt;have I2:=jlean _ _ _ _ _ JI hf tl hP (by rw[ext];exact hne');rw[ext] at I2
    have rowD:∀r∈fs++ls,∃D:Nat,0 < D/\D<=2^S/\∀c,Tp D (2^S) (r.getD c 0):=λr hr=>by
     obtain ⟨i,hi,rfl⟩:=bK hr;obtain ⟨D,D0,D1,D2⟩:=jsz _ _ _ JI (by lia) i (by rw[aw] at hi;lia);refine ⟨D,D0,D1,λc=>?_⟩;have:=D2 c;unfold b7 at this;rw[aa (l:=fs++ls),af hi] at this;exact this
    have szr:∀r∈fs++ls,∀y∈r,oa y:=λr hr y hy=>by
     obtain ⟨D,D0,D1,D2⟩:=rowD r hr;obtain ⟨c,hc,rfl⟩:=bK hy;have:=D2 c;rw[aa,af hc] at this;exact szT D0 D1 this
    have mxt:xt∈fs++ls:=ax.mpr (.inr mt);have lu2:(kJ P xt).length=n:=by unfold kJ;rw[ag];exact wt
    obtain ⟨Du,Du0,Du1,Du2⟩:∃D:Nat,0 < D/\D<=2^S/\∀y∈kJ P xt,Tp D (2^S) y:=by
     obtain ⟨D,D0,D1,D2⟩:=jsz _ _ _ I2 (by lia) ps.length (by lia);refine ⟨D,D0,D1,λy hy=>?_⟩;obtain ⟨c,hc,rfl⟩:=bK hy;have:=D2 c;rw[bO,show ps.length=(fs.map (vK P (kJ P xt))).length+0 by rw[ag];lia,rh] at this
     have e:b7 ([kJ P xt]++(ls.eraseIdx t).map (vK P (kJ P xt))) 0 c=(kJ P xt)[c]:=by
      show (kJ P xt).getD c 0=_
      rw[aa,af hc];rfl
     rw[e] at this;exact this
    have szu:∀y∈kJ P xt,oa y:=λy hy=>szT Du0 Du1 (Du2 y hy)
    have szp:∀r∈fs++ls,∀y∈kJ P xt,oa (r.getD P 0*y):=λr hr y hy=>by
     obtain ⟨D,D0,D1,D2⟩:=rowD r hr;exact szP D0 Du0 D1 Du1 (D2 P) (Du2 y hy)
    obtain ⟨zs,gz,qz⟩:=id Re;obtain ⟨vx,ex,nx⟩:=Cg qz (j:=P) (by lia);have szx:oa (xt.getD P 0):=szr xt mxt _ (getD_in (by lia));exists bN λtq Hf sf gf=>?_
    exists cg (bD.of (sf _ _ gz)) ex ?_;exists ⟨_,_,1,xt.getD P 0,rfl,bX.mk (q:=1) gf rfl,nx.same sf,Ge,szx,hne',λqr Hg sg nq=>?_⟩;have sfg:=sf.trans sg;exists ⟨_,qt,1 / xt.getD P 0,xt,rfl,nq,Gg szx hne',Re.same sfg,by lia,szr xt mxt,λur Hh nur sh Rur=>?_⟩;have Rur:dg K Hh ur (kJ P xt):=Rur;have seh:=sfg.trans sh;have s0h:=s0e.trans seh;have nur0:H ur=none:=(s0e.trans sfg).none nur;exists ⟨⟨_,bD.of (seh _ _ gle)⟩,?_⟩;refine cO (K:=K) (F:=kD K (λq=>H q=none/\q≠lp)) (cA K H) (vK P (kJ P xt)) (seh _ _ gle) (Paired.imp' (λ_ _ z=>kD.same z seh) ple) (by rw[IX tl];lia) (λa b=>a.same b) (λa b=>a.same b) ?_ ?_
    ·rintro i ns x Hi NY NN en si ⟨q,rfl,nq0,Rq⟩ k1;have mn:ns∈fs++ls:=ax.mpr (.inr (Ku (av en)));have wn:=wide ns mn;obtain ⟨zs2,gz2,qz2⟩:=id Rq;obtain ⟨vx2,ex2,nx2⟩:=Cg qz2 (j:=P) (by lia);exists cg (bD.of gz2) ex2 ?_;exists ⟨_,ur,ns.getD P 0,kJ P xt,rfl,nx2,szr ns mn _ (getD_in (by lia)),Rur.same si,by lia,szu,λb1 Hj nb1 sj Rb=>?_⟩;exists ⟨q,b1,ns,_,rfl,Rq.same sj,Rb,by rw[ag];lia,by lia,szr ns mn,λy hy=>?_,λr2 Hk nr2 sk Rk=>?_⟩
     ·obtain ⟨y',hy',rfl⟩:=ay.mp hy;exact szp ns mn y' hy'
     ·exact k1 _ _ (sj.trans sk) ⟨r2,rfl,s0h.none (si.none (sj.none nr2)),Rk⟩
    rintro yl Hk lp2 hlp2 sk gk prk nxk;have s0k:=s0h.trans sk;have Gk:bg K H Hk lp2 ((ls.eraseIdx t).map (vK P (kJ P xt))):=⟨yl,gk,prk,fz nxk⟩;have Ruk:=Rur.same sk;exists ⟨⟨_,bD.of (sk _ _ (seh _ _ gve))⟩,?_⟩;refine cO (K:=K) (F:=kD K (λq=>(H q=none/\q≠fp)/\q≠lp)) (cA K Hk) (vK P (kJ P xt)) (sk _ _ (seh _ _ gve)) (Paired.imp' (λ_ _ z=>kD.same (kD.same z seh) sk) pve) (by lia) (λa b=>a.same b) (λa b=>a.same b) ?_ ?_
    ·rintro i ns x Hi NY NN en si ⟨q,rfl,nq0,Rq⟩ k1;have mn:ns∈fs++ls:=ax.mpr (.inl (av en));have wn:=wide ns mn;obtain ⟨zs2,gz2,qz2⟩:=id Rq;obtain ⟨vx2,ex2,nx2⟩:=Cg qz2 (j:=P) (by lia);exists cg (bD.of gz2) ex2 ?_;exists ⟨_,ur,ns.getD P 0,kJ P xt,rfl,nx2,szr ns mn _ (getD_in (by lia)),Ruk.same si,by lia,szu,λb1 Hj nb1 sj Rb=>?_⟩;exists ⟨q,b1,ns,_,rfl,Rq.same sj,Rb,by rw[ag];lia,by lia,szr ns mn,λy hy=>?_,λr2 Hl nr2 sl Rl=>?_⟩
     ·obtain ⟨y',hy',rfl⟩:=ay.mp hy;exact szp ns mn y' hy'
     ·exact k1 _ _ (sj.trans sl) ⟨r2,rfl,si.none (sj.none nr2),Rl⟩
    rintro yf Hl fp2 hfp2 sl gl prl nxl;have lyf:=prl.length;rw[ag] at lyf;have nfp2:H fp2=none:=s0k.none hfp2;have nlp2:H lp2=none:=s0h.none hlp2;have fl2:fp2≠lp2:=λz=>by rw[z,gk] at hfp2;cases hfp2
    have urk:Hk ur≠none:=by obtain ⟨_,gg,_⟩:=Ruk;rw[gg];exact λz=>nomatch z
    have urf:ur≠fp2:=λz=>urk (by rw[z];exact hfp2)
    have url:ur≠lp2:=λz=>by obtain ⟨_,gg,_⟩:=Rur;rw[z,hlp2] at gg;cases gg
    exists ⟨.inl ⟨rfl,_,bD.of gl⟩,?_⟩;exists jf gl (bc (by lia)) ?_;refine ⟨(s0k.trans sl).after nfp2,lp2,fp2,_,_,ps++[P],_,_,_,_,rfl,nlp2,nfp2,fl2,?_,aH,?_,by rw[aw,aw,ag];show fs.length+1=ps.length+1;lia,I2⟩
    ·obtain ⟨ul,gul,pul⟩:=Gk.toE;refine bg.ofE (P:=λq=>(H q=none/\q≠lp2)/\q≠fp2) (by rw[a7 (Ne.symm fl2)];exact sl _ _ gul) (Paired.imp' (λ_ _ ⟨q,e1,e2,e3⟩=>?_) pul) (λq h=>h.1.1) (λq h=>h.1.2);have qf:q≠fp2:=λz=>by obtain ⟨_,gg,_⟩:=e3;rw[z,hfp2] at gg;cases gg
     exact ⟨q,e1,⟨e2,qf⟩,(dg.same e3 sl).updL gl qf⟩
    ·have nn:=fz nxl;refine bP (nJ (λxs v hv ⟨q,e1,e2,e3⟩=>?_) prl) (.cons ⟨ur,rfl,⟨⟨nur0,urf⟩,url⟩,(Ruk.same sl).updL gl urf⟩ .nil);have qf:q≠fp2:=λz=>nn (by rw[<- z,<- e1];exact hv)
     exact ⟨q,e1,⟨⟨s0k.none e2,qf⟩,λz=>by rw[z,gk] at e2;cases e2⟩,dg.updL e3 gl qf⟩
  ·rintro σ' H' ⟨s',lp,fp,ls,fs,ps,vs,y1,y2,y3,rfl,nlp,nfp,fl,GL,gv,pv,hf,JI⟩;have I:=jlw _ _ _ JI;have D:=I.done hw;rw[List.take_left' hf] at D;obtain ⟨km,_⟩:=I.km;exists k fp fs ps H' nfp s' (bg.ofE gv pv (λq h=>h.1.1) (λq h=>h.1.2)) D km
theorem jM:aU ["_law_one","_law_other","_law_total","_law_k"] ["_law_one","_law_other"] (aJ pR):=by walk_at "d"
theorem A4 (T:Txt K mg Z):cz P w K mg base fb 3 Z.wI Z.v8 ["_law_one","_law_other"] (y8 K):=by
 refine T.nN.F.ok jM (λvs H Q E h=>?_) (λcdv A outer s H vs Q E hr h=>?_)
 ·obtain ⟨p,q,xs,ys,rfl,_⟩:=h;rfl
 ·obtain ⟨p,q,xs,ys,rfl,hp,hq,hl,hz,⟨k1,j1,k2,j2,h1,h2,hkj⟩,kk⟩:=h
  refine ⟨_,(au (aX (i:=2) jM.nd rfl (Or.inl rfl) (cy (ae ak (ae ak ai))))
   (au (d6 PassesOwn.never rfl (b6 rfl T.range (ae (bA a9 (by rfl) T.len aT (ae (pv 0) ai)) ai)) (aK (i:=3) jM.nd)
    (az (aX (i:=2) jM.nd rfl (Or.inl rfl) (cE (jR T) hr T.fO (ae (pv 2) (ae (cE (i5 T) hr T.fh (ae (ba bM (pv 0) (pv 3)) (ae (ba bM (pv 1) (pv 3)) ai))) ai))))))
   (az (aR (pv 2))))),?_⟩
  refine aN (σ:=[some (.ref p),some (.ref q),none,none]) rfl ?_;obtain ⟨us,gu,qu⟩:=id hp;obtain ⟨ws,gw,qw⟩:=id hq;have lu:=qu.length;have lw:=qw.length;exists bN λr0 H0 s0 g0=>?_
  exists ⟨_,_,rfl,.inl (bD.of (s0 _ _ gu)),?_⟩;exists ⟨by lia,by lia,?_⟩;refine eF (n:=us.length) (λi σ' H'=>aF H H'/\∃(r:V) (v:Option V),σ'=[some (.ref p),some (.ref q),some r,v]/\bX K H' (eh (xs.take i) (ys.take i)) r) ⟨s0,_,none,rfl,bX.mk g0 rfl⟩ ?_ ?_
  ·rintro i σ' H' hi ⟨s,r,v,rfl,hr⟩;have ix:i < xs.length:=by lia
   have iy:i < ys.length:=by lia
   obtain ⟨vx,ex,nx⟩:=Cg (Paired.imp' (λ_ _ z=>z.same s) qu) ix;obtain ⟨vy,ey,ny⟩:=Cg (Paired.imp' (λ_ _ z=>z.same s) qw) iy;exists cg (bD.of (s _ _ gu)) ex ?_;exists cg (bD.of (s _ _ gw)) ey ?_;exists ⟨_,_,_,_,rfl,nx,ny,h1.szn (getD_mem ix) (by lia),h2.szn (getD_mem iy) (by lia),λr3 H3 s3 n3=>?_⟩;exists ⟨_,_,_,_,rfl,hr.same s3,n3,FH h1 h2 hz i hkj,E4 (h1.one (getD_mem ix)) (h2.one (getD_mem iy)) hkj,λr4 H4 s4 n4=>?_⟩;exists ⟨(s.trans s3).trans s4,_,_,rfl,by rw[yk ix iy];exact n4⟩
  ·rintro σ' H' ⟨s,r,v,rfl,hr⟩;rw[aG (by lia),aG (by lia)] at hr;obtain ⟨t,rfl,ht⟩:=hr;exists kk _ H' s ⟨t,rfl,ht⟩
theorem BM:aU ["_law_grid","_law_row_here"] ["_law_grid","_law_row_here"] (aJ su):=by walk_at "d"
theorem BZ (T:Txt K mg Z):cz P w K mg base fb 4 Z.yL Z.yu ["_law_grid","_law_row_here"] (y7 K):=by
 refine T.p3.F.ok BM (λvs H Q E h=>?_) (λcdv A outer s H vs Q E hr h=>?_)
 ·obtain ⟨p,q,H0,rows,ys,rfl,_⟩:=h;rfl
 ·obtain ⟨p,q,H0,rows,ys,rfl,hp,hq,hz,hl,hr1,kk⟩:=h;refine ⟨_,(az (aR (bJ ["_law_one"] ["_law_row_here"] [1] (bV (pv 0)) (λ_=>(aK (i:=0) (show ND9 ["_law_one","_law_row_here"] by decide +kernel))) (λ_=>bT) (λ_=>(cE (A4 T) hr T.nN (ae (pv 0) (ae (pv 1) ai))))))),?_⟩;refine aN (σ:=[some (.ref p),some (.ref q)]) rfl ?_;obtain ⟨xs,gx,qx,_⟩:=id hp;exists ⟨⟨_,bD.of gx⟩,?_⟩;refine cO (K:=K) (F:=cA K H0) (bX K) (λxs=>eh xs ys) gx qx hz (λa b=>a.same b) (λa b=>a.same b) ?_ ?_
  ·rintro i ns x H' NY NN en s ⟨u,rfl,_,hu⟩ k;obtain ⟨e1,e2⟩:=hr1 ns (av en);exists ⟨u,q,ns,ys,rfl,hu,hq.same s,e1.symm,by lia,e2,λr H2 s2 h2'=>k _ _ s2 h2'⟩
  ·rintro ys' H' r hr s g pr nx;exact kk r H' hr s ⟨ys',g,pr⟩
theorem eH:aU ["_law_parts_here","_law_steps","_law_rows","_law_some","_law_turn"] ["_law_parts_here","_law_steps"] (aJ lH):=by walk_at "d"
theorem xx (T:Txt K mg Z):cz P w K mg base fb 5 Z.rH Z.rf ["_law_parts_here","_law_steps"] (xQ K):=by
 refine T.kB.F.ok eH (λvs H Q E h=>?_) (λcdv A outer s H vs Q E hr h=>?_)
 ·obtain ⟨r,tt,H0,mv,pt,lk,rfl,_⟩:=h;rfl
 ·obtain ⟨r,tt,H0,mv,pt,lk,rfl,hT,PQ,D,AF,k⟩:=h
  refine ⟨_,(au (ik 2 ["_law_row_here"] [] [] eH.nd rfl rfl (bV (ba bW (pv 0) ak)) (λ_=>(aK (i:=0) (show ND9 ["_law_row_here"] by decide +kernel))) (λ_=>bT) (λ_=>(d7 (iB K (by rfl)) (by rfl) T.list PyProof.Rows.boot_list (ae (pv 0) ai))))
   (au (aX (i:=3) eH.nd rfl (Or.inl rfl) (dJ ai))
   (au (d6 PassesOwn.never rfl (b6 rfl T.range (ae (pv 1) ai)) (aK (i:=4) eH.nd)
    (au (aX (i:=3) eH.nd rfl (Or.inl rfl) (bx lN (pv 3) (pv 2)))
   (az (ik 2 ["_law_row_here"] ["_law_parts_here"] [0] eH.nd rfl rfl (bV (pv 2)) (λ_=>(aK (i:=0) (show ND9 ["_law_row_here","_law_parts_here"] by decide +kernel))) (λ_=>bT) (λ_=>(cE (BZ T) hr T.p3 (ae (ba (uz K (by rfl)) (pv 1) ak) (ae (pv 0) ai))))))))
   (az (aR (pv 3)))))),?_⟩
  refine aN (σ:=[some (.ref r),some (.int tt),none,none,none]) rfl ?_;have d1:=D.n8;have i4:=D.i4;obtain ⟨m,p,l,g,n1,n2,n3,Gm,Gp,Gl⟩:=id PQ;obtain ⟨up,gp,qp,_⟩:=id Gp;have lup:=qp.length;exists ⟨⟨_,bD.of gp⟩,?_⟩;refine cO (K:=K) (F:=cA K H0) (cA K H) id gp qp (by lia) (λa b=>a.same b) (λa b=>a.same b) ?_ ?_
  ·rintro i ns x H' NY NN en s ⟨u,rfl,_,zs,gz,qz⟩ k1;exists ⟨u,zs,rfl,.inl (bD.of gz),λl1 hl1=>?_⟩;exact k1 _ _ (aF.new hl1) ⟨l1,rfl,s.none hl1,zs,aH,Paired.imp' (λ_ _ z=>z.same (aF.new hl1)) qz⟩
  rintro ys1 H1 rq1 hr1 s1 g1 pr1 nx1;rw[rL] at pr1 nx1;have G1:bg K H H1 rq1 pt:=⟨ys1,g1,pr1,fz nx1⟩;exists dd λsm0 H2 s2 nf gf=>?_
  have s02:=s1.trans s2;exists ⟨by lia,by lia,?_⟩;refine eF (n:=tt) (λt σ' H'=>aF H H'/\∃rq sm y,σ'=[some (.ref r),some (.int tt),some (.ref rq),some (.ref sm),y]/\H sm=none/\bg K H H' sm (kry mv pt t)/\bg K H H' rq (pt.map (pT mv t))) ⟨s02,rq1,sm0,_,rfl,s1.none nf,⟨[],gf,.nil,λz=>nomatch z⟩,by rw[show pt.map (pT mv 0)=pt from rL pt];exact G1.same s2⟩ ?_ ?_
  ·rintro t σ' H' ht ⟨s',rq,sm,y,rfl,nsm,Gs,Gq⟩;obtain ⟨us,gu,pu,_⟩:=id Gs;obtain ⟨zs,gz,qz,_⟩:=id Gq;have lz:=qz.length;rw[ag] at lz;have lu:=pu.length;rw[zW] at lu;have lb:t*pt.length<=20*4:=aP (by lia) i4;exists lI gu gz (aL (bc (by lia))) λcc H3 s3 nc gc=>?_
   have ek:kry mv pt (t+1)=kry mv pt t++pt.map (pT mv t):=by
    rw[<- Ak,HZ,List.flatten_append,Ak];simp
   have Gc:bg K H H3 cc (kry mv pt (t+1)):=by
    rw[ek];exact ⟨_,gc,Paired.imp' (λ_ _ z=>cA.same z s3) (bP pu qz),fz ⟨H',nc,bP pu qz⟩⟩
   have s03:=s'.trans s3;have g3:=s03 _ _ g;exists ⟨⟨_,bD.of (s3 _ _ gz)⟩,?_⟩;refine cO (K:=K) (F:=cA K H) (cA K H) (oB mv) (s3 _ _ gz) (Paired.imp' (λ_ _ z=>cA.same z s3) qz) (by rw[ag];lia) (λa b=>a.same b) (λa b=>a.same b) ?_ ?_
   ·rintro i ns v Ha NY NN en sa ⟨u,rfl,_,Ru⟩ k1;have mn:=av en;obtain ⟨y0,hy0,rfl⟩:=ay.mp mn;have wy:=D.pw y0 hy0;have ga:=sa _ _ g3;exists ⟨m,u,H0,mv,_,rfl,(Gm.same s03).same sa,Ru,by lia,by rw[CU wy];lia,λxs hx=>⟨by rw[D.mw xs hx,CU wy],((AF.row D.mw D.pw y0 hy0).fit D.mw wy (show t<=tt by lia)).1 xs hx⟩,λz Hj nz sj Rz=>k1 _ _ sj ⟨z,rfl,s03.none (sa.none nz),Rz⟩⟩
   ·rintro ys Hb rr hrr sb gb prb nxb;have e:(pt.map (pT mv t)).map (oB mv)=pt.map (pT mv (t+1)):=by rw[oA];rfl
    rw[e] at prb nxb;exact ⟨s03.trans sb,rr,cc,_,rfl,s'.none nc,Gc.same sb,ys,gb,prb,fz nxb⟩
  ·rintro σ' H' ⟨s',rq,sm,y,rfl,nsm,Gs,Gq⟩;exists k sm H' nsm s' Gs
theorem zg:aU ["_law_n","_law_at"] ["_law_n","_law_at"] (aJ m8):=by walk_at "d"
theorem zJ (T:Txt K mg Z):cz P w K mg base fb 1 Z.tU Z.tz ["_law_n","_law_at"] (CL K):=by
 refine T.l9.F.ok zg (λvs H Q E h=>?_) (λcdv A outer s H vs Q E hr h=>?_)
 ·obtain ⟨n,a,rfl,_⟩:=h;rfl
 ·obtain ⟨n,a,rfl,n100,k⟩:=h;refine ⟨_,(az (aR (bJ ["_law_j"] ["_law_at"] [1] (b6 rfl T.range (ae (pv 0) ai)) (λ_=>(aK (i:=0) (show ND9 ["_law_j","_law_at"] by decide +kernel))) (λ_=>bT) (λ_=>(cy (ae (d7 jh (by rfl) T.int PyProof.Rows.boot_int (ae (fD d9 (pv 0) (pv 1) (bp _)) ai)) (ae ak ai))))))),?_⟩;refine aN (σ:=[some (.int n),some (.int a)]) rfl ?_;exists ⟨by lia,by lia,?_⟩;refine eI (n:=n) (bX K) (λ(j:Nat)=>(((if decide ((j:Int)=(a:Int))=true then 1 else 0:Int)):Rat)) (by lia) (λa b=>a.same b) ?_ ?_
  ·rintro j Hz NY2 NN2 hj sz k2;exists bN λt Hy sy gy=>?_
   exact k2 _ _ sy (bX.mk gy rfl)
  ·rintro ys Hz t ht sz g pr nx
   have e:(List.range n).map (λ(j:Nat)=>(((if decide ((j:Int)=(a:Int))=true then 1 else 0:Int)):Rat))=j8 n ((a:Nat):Int):=by
    unfold j8;refine List.map_congr_left λj _=>?_
    by_cases q:(j:Int)=(a:Int)
    ·rw[if_pos (decide_eq_true q),if_pos q];rfl
    ·rw[if_neg (λz=>q (of_decide_eq_true z)),if_neg q];rfl
   rw[e] at pr;exact k t Hz ht sz ⟨ys,g,pr⟩
theorem qq:aU ["_law_rows","_law_n","_law_heads"] ["_law_rows","_law_n"] (aJ nE):=by walk_at "d"
theorem zQ (T:Txt K mg Z):cz P w K mg base fb 1 Z.ue Z.tO ["_law_rows","_law_n"] (uU K):=by
 refine T.my.F.ok qq (λvs H Q E h=>?_) (λcdv A outer s H vs Q E hr h=>?_)
 ·obtain ⟨p,n,H0,R,ps,rfl,_⟩:=h;rfl
 ·obtain ⟨p,n,H0,R,ps,rfl,G,r100,n100,RR,k⟩:=h
  refine ⟨_,(au (aX (i:=2) qq.nd rfl (Or.inr rfl) (bJ ["_law_row_here"] [] [] (bV (pv 0)) (λ_=>(aK (i:=0) (show ND9 ["_law_row_here"] by decide +kernel))) (λ_=>bT) (λ_=>(JN K cJ PySem.F.slot_list_index PySem.F.type_list_index E7 (bJ ["_law_one"] [] [] (vn K (pv 0)) (λ_=>(aK (i:=0) (show ND9 ["_law_one"] by decide +kernel))) (λ_=>bT) (λ_=>(fD (zG K (by rfl) (vR hr)) (pv 0) (cy (ae ak (ae ak ai))) (bp _)))) (ae jQ ai)))))
   (az (aR (bJ ["_law_at"] ["_law_heads"] [2] (b6 rfl T.range (ae (pv 1) ai)) (λ_=>(aK (i:=0) (show ND9 ["_law_at","_law_heads"] by decide +kernel))) (λ_=>zz (a8 (oK K (by rfl)) (pv 0) (pv 1) (by with_unfolding_all rfl))) (λ_=>(pv 0)))))),?_⟩
  refine aN (σ:=[some (.ref p),some (.int n),none]) rfl ?_;obtain ⟨rows,RR⟩:=RR;obtain ⟨vs,gv,qv,_⟩:=id G;have lv:=qv.length;have lR:=RR.1;exists ⟨⟨_,bD.of gv⟩,?_⟩;refine cW (K:=K) (xs:=vs) (λi ys H'=>aF H H'/\ys=ck (ps.take i)) (aL (bc (by lia))) ⟨aF.refl _,rfl⟩ (λi ys H' _ ⟨s,_⟩=>bD.of (s _ _ gv)) ?_ ?_
  ·rintro i v ys H' hx hlen ⟨s',rfl⟩;obtain ⟨row,er,u,rfl,_,Ru⟩:=cw qv hx;have hi:i < ps.length:=by have:=(aA.mp er).1;lia
   have wr:=RR.2.1 row (av er);have low:=RR.2.2.low i hi;obtain ⟨us,gu,qu⟩:=Ru.same s';have lu:=qu.length;exists ⟨⟨_,bD.of gu⟩,?_⟩;refine cO (K:=K) (as:=row) (F:=bX K) (λ_ b y=>y=V.bl b) (λy=>decide (y≠0)) gu qu (by lia) (λh s=>h.same s) (λh _=>h) ?_ ?_
   ·rintro i2 c x H2 NY NN ec s2 nc k1;exists bN λt6 H6 s6 g6=>?_
    exists ⟨_,_,C7,c,0,by decide,nc.same s6,bX.mk (q:=0) g6 rfl,?_⟩;refine k1 _ _ s6 ?_;rw[decide_not]
   rintro ys2 H2 l hl2 s2 g2 pr2 _;have ey:ys2=(row.map λy=>decide (y≠0)).map V.bl:=vq pr2;rw[ey] at g2;exists ⟨.inl ⟨rfl,_,bD.of g2⟩,?_⟩;walk_at "w"
   have at_:∀j,j < row.length->(row.map λy=>decide (y≠0))[j]?=some (decide (b7 R i j≠0)):=λj hj=>by
    rw[aD,af hj,sQ er,aa,af hj];rfl
   have one:=RR.2.2.unit i hi i hi;rw[if_pos rfl] at one;refine ⟨l,_,true,ps.getD i 0,rfl,rfl,g2,by rw[at_ _ (by lia),one];rfl,λj hj z=>?_,?_⟩
   ·rw[at_ j (by lia),RR.2.2.lead i hi j hj] at z;exact absurd z (by decide)
   refine ⟨s'.trans s2,?_⟩;rw[take_snoc (show ps[i]?=some (ps.getD i 0) by rw[aa,af hi];rfl)];unfold ck;rw[bH];rfl
  rintro ys H1' hy ⟨s1',rfl⟩ l hl;rw[aG (by lia)];have sn:aF H1' (upd H1' l (.lst (ck ps))):=aF.new hl;have g1:(upd H1' l (.lst (ck ps))) l=some (.lst (ck ps)):=aH;generalize upd H1' l (.lst (ck ps))=H1 at sn g1 ⊢;have s1:=s1'.trans sn;exists ⟨by lia,by lia,?_⟩;refine ie (n:=n) (λi ys H'=>aF H1 H'/\ys=ck (gP ps i)) (aL (bc (by lia))) ⟨aF.refl _,rfl⟩ ?_ ?_
  ·rintro i ys H' hi hlen ⟨s',rfl⟩;rw[j7];exists ⟨l,ck ps,rfl,.inl (bD.of (s' _ _ g1)),rfl,xZ,?_⟩;rw[Bh];by_cases e:i∈ps
   ·rw[decide_eq_true e];exists ⟨s',?_⟩;rw[nR,if_neg (by simpa using e)]
   ·rw[decide_eq_false e,show (if true=true then !false else false)=true from rfl];exists ⟨s',?_⟩;rw[nR,if_pos e];unfold ck;rw[bH];rfl
  ·rintro ys H2 hy ⟨s2,rfl⟩ r hr;exact k r _ (s1.none (s2.none hr)) ((s1.trans s2).trans (aF.new hr)) aH
theorem ze:aU ["row","bottom"] ["row","bottom"] (aJ m6):=by walk_at "d"
theorem lQ (T:Txt K mg Z):cz P w K mg base fb 1 Z.tS Z.tw ["row","bottom"] (AG K):=by
 refine T.gD.F.ok ze (λvs H Q E h=>?_) (λcdv A outer s H vs Q E hr h=>?_)
 ·obtain ⟨p,ns,M,B,rfl,_⟩:=h;rfl
 ·obtain ⟨p,ns,M,B,rfl,hp,hl,hz,hB,sB,q⟩:=h;refine ⟨_,(az (aR (bJ ["value"] ["bottom"] [1] (bV (pv 0)) (λ_=>(aK (i:=0) (show ND9 ["value","bottom"] by decide +kernel))) (λ_=>bT) (λ_=>(bx cK (ba (uz K (by rfl)) (pv 0) ak) (bx gs (pv 1) (ba (uz K (by rfl)) (pv 0) ak))))))),?_⟩;refine aN (σ:=[some (.ref p),some (.int B)]) rfl ?_;obtain ⟨xs,gx,qx⟩:=id hp;have lx:=qx.length;exists ⟨⟨_,bD.of gx⟩,?_⟩;refine cW (K:=K) (xs:=xs) (λi ys H'=>H'=H/\ys=(dW (ns.take i) B).map V.int) (aL (bc (by lia))) ⟨rfl,rfl⟩ (λi ys H' _ ⟨e,_⟩=>by subst e;exact bD.of gx) ?_ ?_
  ·rintro i x ys H' hx hlen ⟨rfl,rfl⟩;obtain ⟨n,en,r,rfl,hr1⟩:=cw qx hx;have nz:=hz.2.2 n (av en);have sn:Sz 4400 n.2:=Ab hz.1 nz.2.1 hz.2.1;exists eK (show mN _ _ from ⟨by lia,sn.mono (by decide)⟩) ?_;rw[b9 _ (by lia)]
   have sq:Sz 4400 (B / n.2):=sB.le (by
    rw[Kr (by lia)];exact Nat.div_le_self ..)
   exists eK (show fe _ _ from .inr ⟨_,_,nz.2.2,sq,by decide⟩) ?_;exact ⟨rfl,by rw[take_snoc en];simp [dW]⟩
  ·rintro ys H' hy ⟨rfl,rfl⟩ l hl';exact q l _ hl' (aF.new hl') (by rw[aH,aG (by lia)])
theorem eB:aU ["wholes","multiple","whole"] ["wholes"] (aJ fZ):=by walk_at "d"
theorem pW (T:Txt K mg Z):cz P w K mg base fb 2 Z.jX Z.jW ["wholes"] (ED K):=by
 refine T.fI.F.ok eB (λvs H Q E h=>?_) (λcdv A outer s H vs Q E hr h=>?_)
 ·obtain ⟨p,bs,M,rfl,_⟩:=h;rfl
 ·obtain ⟨p,bs,M,rfl,hp,hM,sM,hb,q⟩:=h
  refine ⟨_,(au (aX (i:=1) eB.nd rfl (Or.inl rfl) ak)
   (au (d6 PassesOwn.never rfl (bV (pv 0)) (aK (i:=2) eB.nd)
    (az (aX (i:=1) eB.nd rfl (Or.inl rfl) (bx cK (pv 1) (bx gs (pv 2) (cE (gB T) hr T.dN (ae (pv 1) (ae (pv 2) ai))))))))
   (az (aR (pv 1))))),?_⟩
  refine aN (σ:=[some (.ref p),none,none]) rfl ?_;exists ⟨⟨_,hp⟩,?_⟩;refine iI (K:=K) (a:=p) (xs:=bs.map V.int) (λi σ' H'=>H'=H/\∃x,σ'=[some (.ref p),some (.int (sI (bs.take i) 1)),x]) ⟨rfl,none,rfl⟩ (λi σ' H' _ ⟨e,_⟩=>by subst e;exact hp) ?_ ?_
  ·rintro i x σ' H' hx ⟨rfl,y,rfl⟩;rw[aD] at hx
   obtain ⟨b,eb,rfl⟩:∃b,bs[i]?=some b/\x=.int b:=by
    cases e:bs[i]? with
    | none=>rw[e] at hx;cases hx
    | some b=>rw[e] at hx;cases hx;exact ⟨b,rfl,rfl⟩
   have b1:=hb b (av eb);have sb:Sz 4400 b:=Ab hM b1.2 sM;have ht:∀c∈bs.take i,0 < c/\c∣M:=λc hc=>hb c (cL hc)
   have msz:Sz 4400 (sI (bs.take i) 1):=Ab hM (ux (by decide) (Int.one_dvd _) ht) sM;generalize hm:sI (bs.take i) 1=m at msz ⊢;have gp:0 < g m b:=vS (by lia);exists ⟨m,b,rfl,?_⟩;exists eK (show mN _ _ from ⟨by lia,(Mb b1.1 sb).mono (by decide)⟩) ?_;rw[b9 _ (by lia)];exists eK (show fe _ _ from .inr ⟨_,_,msz,sb.hi (t:=m) (by lia),by decide⟩) ?_;exists ⟨rfl,_,by rw[take_snoc eb,yc,hm];rfl⟩
  ·rintro σ' H' ⟨rfl,y,rfl⟩;walk_at "w";rw[aG (by simp)];exact q
theorem rT:aU ["row"] ["row"] (aJ iT):=by walk_at "d"
theorem gZ (T:Txt K mg Z):cz P w K mg base fb 3 Z.mM Z.mJ ["row"] (EE K):=by
 refine T.ee.F.ok rT (λvs H Q E h=>?_) (λcdv A outer s H vs Q E hr h=>?_)
 ·obtain ⟨p,ns,M,rfl,_⟩:=h;rfl
 ·obtain ⟨p,ns,M,rfl,hp,hl,hz,q⟩:=h;refine ⟨_,(az (aR (cE (pW T) hr T.fI (ae (bJ ["value"] [] [] (bV (pv 0)) (λ_=>(aK (i:=0) (show ND9 ["value"] by decide +kernel))) (λ_=>bT) (λ_=>(ba (uz K (by rfl)) (pv 0) ak))) ai)))),?_⟩;refine aN (σ:=[some (.ref p)]) rfl ?_;obtain ⟨xs,gx,qx⟩:=id hp;have lx:=qx.length;exists ⟨⟨_,bD.of gx⟩,?_⟩;refine cW (K:=K) (xs:=xs) (λi ys H'=>H'=H/\ys=((ns.take i).map (·.2)).map V.int) (aL (bc (by lia))) ⟨rfl,rfl⟩ (λi ys H' _ ⟨e,_⟩=>by subst e;exact bD.of gx) ?_ ?_
  ·rintro i x ys H' hx hlen ⟨rfl,rfl⟩;obtain ⟨n,en,r,rfl,hr1⟩:=cw qx hx;exists ⟨rfl,by rw[take_snoc en];simp⟩
  ·rintro ys H' hy ⟨rfl,rfl⟩ l hl';exists ⟨l,ns.map (·.2),M,rfl,bD.of (by rw[aH,aG (by lia)]),hz.1,hz.2.1,λb hb=>?_,?_⟩
   ·obtain ⟨n,hn,rfl⟩:=ay.mp hb;exact ⟨(hz.2.2 n hn).1,(hz.2.2 n hn).2.1⟩
   ·exact q _ (aF.new hl')
theorem oI:aU ["lines","begin","place","at"] ["lines","begin","place"] (aJ lC):=by walk_at "d"
theorem xp (T:Txt K mg Z):cz P w K mg base fb 1 Z.rB Z.qU ["lines","begin","place"] xO:=by
 refine T.kv.F.ok oI (λvs H Q E h=>?_) (λcdv A outer s H vs Q E hr h=>?_)
 ·obtain ⟨l,p,ls,b,c,rfl,_⟩:=h;rfl
 ·obtain ⟨l,p,ls,b,c,rfl,G,l1000,b1000,hc,k1,k2⟩:=h
  refine ⟨_,(au (d6 PassesOwn.never rfl (DV rfl T.range (ae (pv 1) (ae (bA a9 (by rfl) T.len aT (ae (pv 0) ai)) ai))) (aK (i:=3) oI.nd)
    (az (cG (a8 qG (ba bM (ba bM (pv 0) (pv 3)) (pv 2)) ak (bp _)) (az (aR (pv 3))) bL)))
   (az (aR zB))),?_⟩
  refine aN (σ:=[some (.ref p),some (.int b),some (.int c),none]) rfl ?_;obtain ⟨_,xs,gx,qx⟩:=id G;have lx:=qx.length;exists ⟨_,_,rfl,.inl (bD.of gx),?_⟩;rw[<- lx];exists ⟨⟨by lia,by lia,by lia,by lia⟩,?_⟩;refine yh (lo:=(b:Int)) (n:=((ls.length:Int) - (b:Int)).toNat) (λi σ' H'=>H'=H/\(∃y,σ'=[some (.ref p),some (.int b),some (.int c),y])/\∀s,b<=s->s < b+i->dn ls s c=0) ⟨rfl,⟨_,rfl⟩,λs h1 h2=>absurd h2 (by lia)⟩ ?_ ?_
  ·rintro i σ' H' hi ⟨rfl,⟨y,rfl⟩,hz⟩;rw[show ((b:Int)+(i:Int))=((b+i:Nat):Int) by lia];obtain ⟨zs,v,ez,ev,mz,q,rfl,_,gq⟩:=fH qx (i:=b+i) (by lia);exists cg (bD.of gx) (eG ev) ?_;exists cg (bD.of gq) (Au (hc zs mz)) ?_;walk_at "w";have ef:=IZ (c:=c) ez;by_cases e:zs.getD c 0=0
   ·rw[decide_eq_true e];exists ⟨rfl,⟨_,rfl⟩,λs h1 h2=>?_⟩;by_cases e2:s=b+i
    ·rw[e2,ef,e];rfl
    ·exact hz s h1 (by lia)
   ·rw[decide_eq_false e];exists k1 (b+i) (by lia) (by lia) (by rw[ef];exact LX.mpr e)
  ·rintro σ' H' ⟨rfl,⟨y,rfl⟩,hz⟩;exists k2 λt h1 h2=>hz t h1 (by lia)
theorem kY:aU ["lines","at","place","before","used","by","swept"] ["lines","at","place","before"] (aJ r8):=by walk_at "d"
theorem BY (T:Txt K mg Z):cz P w K mg base fb 1 Z.yK Z.yt ["lines","at","place","before"] xP:=by
 refine T.pZ.F.ok kY (λvs H Q E h=>?_) (λcdv A outer s H vs Q E hr h=>?_)
 ·obtain ⟨l,p,ls,kk,c,n,b,rfl,_⟩:=h;rfl
 ·obtain ⟨l,p,ls,kk,c,n,b,rfl,hl,G,l1000,hk,hw,n1000,hc,b0,sb,hs,k⟩:=h
  refine ⟨_,(au (aX (i:=4) kY.nd rfl (Or.inr rfl) (ba bM (pv 0) (pv 1)))
   (au (aX (i:=5) kY.nd rfl (Or.inr rfl) (ba bM (pv 4) (pv 2)))
   (au (ik 6 ["line"] ["used","by","place","before"] [4,5,2,3] kY.nd rfl rfl (bV (pv 0)) (λ_=>(aK (i:=0) (show ND9 ["line","used","by","place","before"] by decide +kernel) rfl (Or.inr rfl) (Or.inl rfl))) (λ_=>bT) (λ_=>(bJ ["mine","yours"] ["by","line","place","before"] [2,0,3,4] (EU K rfl T.zip (ae (pv 0) (ae (pv 1) ai))) (λ_=>(qE K 2 (c4 (aK (i:=0) (show ND9 ["mine","yours","by","line","place","before"] by decide +kernel)) (c4 (aK (i:=1) (show ND9 ["mine","yours","by","line","place","before"] by decide +kernel)) jP)))) (λ_=>bT) (λ_=>(bx gs (bx gY (bx cK (pv 2) (pv 0)) (bx cK (ba (eZ K (by rfl)) (pv 3) (pv 4)) (pv 1))) (pv 5))))))
   (au (eL (pv 4) (fu (pv 6) (pv 1) set_list))
   (az (aR (pv 6))))))),?_⟩
  refine aN (σ:=[some (.ref p),some (.int kk),some (.int c),some (.int b),none,none,none]) rfl ?_;obtain ⟨pl,xs,gx,qx⟩:=id G;have lx:=qx.length;obtain ⟨zk,vk,ek,evk,mk,qk,rfl,qkl,gk⟩:=fH qx hk;have wk:=hw zk mk;have ek':ls.getD kk []=zk:=by rw[aa,ek];rfl
  exists cg (bD.of gx) (eG evk) ?_;exists cg (bD.of gk) (Au (by lia)) ?_;exists ⟨⟨_,bD.of gx⟩,?_⟩;refine cW (K:=K) (xs:=xs) (λi ys H'=>aF H H'/\Paired (Dy l H') ((ls.take i).map λzs=>List.zipWith (λx y=>(zk.getD c 0*x - zs.getD c 0*y).fdiv b) zs zk) ys) (aL (bc (by lia))) ⟨aF.refl _,.nil⟩ (λi ys H' _ ⟨s,_⟩=>bD.of (s _ _ gx)) ?_ ?_
  ·rintro i v ys0 H' hx hlen ⟨s',pr⟩;obtain ⟨zs,ec,q,rfl,ql,gq⟩:=cw qx hx;have mz:=av ec;have wz:=hw zs mz;have gq':=s' _ _ gq;have gk':=s' _ _ gk;exists ⟨⟨_,bD.of gq'⟩,⟨_,bD.of gk'⟩,?_⟩;refine wb (K:=K) (xs:=zs.map V.int) (ws:=zk.map V.int) (λj ys H2=>aF H' H2/\ys=((List.zipWith (λx y=>(zk.getD c 0*x - zs.getD c 0*y).fdiv b) zs zk).take j).map V.int) (aL (bc (by rw[ag];lia))) (by rw[ag,ag];lia) ⟨aF.refl _,rfl⟩ (λj ys H2 _ ⟨s2,_⟩=>⟨bD.of (s2 _ _ gq'),bD.of (s2 _ _ gk')⟩) ?_ ?_
   ·rintro j v1 v2 ys H2 r h1 h2 hy ⟨s2,rfl⟩ hr
    obtain ⟨x,ex,rfl⟩:∃x,zs[j]?=some x/\V.int x=v1:=by
     rw[aD] at h1;cases e:zs[j]? with
     | none=>rw[e] at h1;cases h1
     | some x=>rw[e] at h1;exact ⟨x,rfl,bQ h1⟩
    obtain ⟨y,ey,rfl⟩:∃y,zk[j]?=some y/\V.int y=v2:=by
     rw[aD] at h2;cases e:zk[j]? with
     | none=>rw[e] at h2;cases h2
     | some x=>rw[e] at h2;exact ⟨x,rfl,bQ h2⟩
    have sr:aF H2 (upd H2 r (.tup [.int x,.int y])):=aF.new hr;have gr:(upd H2 r (.tup [.int x,.int y])) r=some (.tup [.int x,.int y]):=aH;generalize upd H2 r (.tup [.int x,.int y])=H3 at sr gr ⊢;have gq3:=sr _ _ (s2 _ _ gq');have sx:=hs zs mz x (av ex);have sy:=hs zk mk y (av ey);have s1:=hs zk mk _ (getD_in (e:=0) (show c < zk.length by lia));have s3:=hs zs mz _ (getD_in (e:=0) (show c < zs.length by lia));exists eK (show fe _ _ from .inr ⟨_,_,s1,sx,by decide⟩) ?_;exists cg (bD.of gq3) (Au (by lia)) ?_;exists eK (show fe _ _ from .inr ⟨_,_,s3,sy,by decide⟩) ?_;exists eK (show mN _ _ from ⟨b0,sb⟩) ?_;have ez:(List.zipWith (λx y=>(zk.getD c 0*x - zs.getD c 0*y).fdiv b) zs zk)[j]?=some ((zk.getD c 0*x - zs.getD c 0*y).fdiv b):=by rw[du,ex,ey]
    exact ⟨s2.trans sr,by rw[take_snoc ez];simp⟩
   ·rintro ys H2 hy ⟨s2,rfl⟩ r hr;have sn:aF H2 (upd H2 r (.lst (((List.zipWith (λx y=>(zk.getD c 0*x - zs.getD c 0*y).fdiv b) zs zk).take (zs.map V.int).length).map V.int))):=aF.new hr;refine ⟨(s'.trans s2).trans sn,?_⟩;rw[take_snoc ec,bH];refine bP (Paired.imp' (λ_ _ z=>(Dy.same z s2).same sn) pr) (.cons ⟨r,rfl,ne_old (λz=>hl (s'.none (s2.none z))) hr,?_⟩ .nil);rw[aH,aG (by rw[cR,ag];lia)]
  ·rintro ys H1 hy ⟨s1,pr⟩ r hr;have sn:aF H1 (upd H1 r (.lst ys)):=aF.new hr;have gn:(upd H1 r (.lst ys)) r=some (.lst ys):=aH;have ly:=pr.length;rw[ag,cQ] at ly;generalize upd H1 r (.lst ys)=H2 at sn gn ⊢;exists dY gn (eE (by lia)) rfl ?_;have s2:aF H1 (upd H2 r (.lst (ys.set kk (.ref qk)))):=sn.after hr;exists k r _ (s1.none hr) (s1.trans s2) ⟨ne_old (λz=>hl (s1.none z)) hr,_,aH,?_⟩;unfold Bo;rw[ek'];rw[aG (by lia)] at pr;exact jt (Paired.imp' (λ_ _ z=>Dy.same z s2) pr) kk ⟨qk,rfl,qkl,(s1.trans s2) _ _ gk⟩
theorem oJ:aU ["lines","at","to","swapped"] ["lines","at","to"] (aJ lD):=by walk_at "d"
theorem xr (T:Txt K mg Z):cz P w K mg base fb 1 Z.rC Z.qV ["lines","at","to"] sW:=by
 refine T.kx.F.ok oJ (λvs H Q E h=>?_) (λcdv A outer s H vs Q E hr h=>?_)
 ·obtain ⟨l,p,ls,t,kk,rfl,_⟩:=h;rfl
 ·obtain ⟨l,p,ls,t,kk,rfl,hl,G,l1000,ht,hk,k⟩:=h
  refine ⟨_,(au (aX (i:=3) oJ.nd rfl (Or.inl rfl) (d7 rg (by rfl) T.list PyProof.Rows.boot_list (ae (pv 0) ai)))
   (au (eL (ba bM (pv 0) (pv 1)) (fu (pv 3) (pv 2) set_list))
   (au (eL (ba bM (pv 0) (pv 2)) (fu (pv 3) (pv 1) set_list))
   (az (aR (pv 3)))))),?_⟩
  refine aN (σ:=[some (.ref p),some (.int t),some (.int kk),none]) rfl ?_;obtain ⟨pl,xs,gx,qx⟩:=id G;have lx:=qx.length;obtain ⟨zt,vt,et,evt,_,Ft⟩:=fH qx ht;obtain ⟨zk,vk,ek,evk,_,Fk⟩:=fH qx hk;exists ⟨p,xs,rfl,.inl (bD.of gx),λc hc=>?_⟩;have sc:aF H (upd H c (.lst xs)):=aF.new hc;have gc:(upd H c (.lst xs)) c=some (.lst xs):=aH;generalize upd H c (.lst xs)=Hc at sc gc ⊢;exists cg (bD.of (sc _ _ gx)) (eG evt) ?_;exists dY gc (eE (by lia)) rfl ?_;have s1:aF H (upd Hc c (.lst (xs.set kk vt))):=sc.after hc;have g1:(upd Hc c (.lst (xs.set kk vt))) c=some (.lst (xs.set kk vt)):=aH;generalize upd Hc c (.lst (xs.set kk vt))=H1 at s1 g1 ⊢;exists cg (bD.of (s1 _ _ gx)) (eG evk) ?_;exists dY g1 (eE (by rw[dR];lia)) rfl ?_;have s2:aF H (upd H1 c (.lst ((xs.set kk vt).set t vk))):=s1.after hc;exists k c _ hc s2 ⟨ne_old hl hc,_,aH,?_⟩;have et':ls.getD t []=zt:=by rw[aa,et];rfl
  have ek':ls.getD kk []=zk:=by rw[aa,ek];rfl
  unfold kW;rw[et',ek'];exact jt (jt (Paired.imp' (λ_ _ z=>Dy.same z s2) qx) kk (Dy.same Ft s2)) t (Dy.same Fk s2)
theorem fX:aU ["rows","wide","lines","leads","before","place","many","at"] ["rows","wide"] (aJ zu):=by walk_at "d"
theorem EZ (T:Txt K mg Z):cz P w K mg base fb 4 Z.Dx Z.Dq ["rows","wide"] (xG K):=by
 refine T.vI.F.ok fX (λvs H Q E h=>?_) (λcdv A outer s H vs Q E hr h=>?_)
 ·obtain ⟨p,n,w,H0,rows,rfl,_⟩:=h;rfl
 ·obtain ⟨p,n,w,H0,rows,rfl,G,r100,n100,hw,F,k⟩:=h
  refine ⟨_,(au (ik 2 ["row"] [] [] fX.nd rfl rfl (bV (pv 0)) (λ_=>(aK (i:=0) (show ND9 ["row"] by decide +kernel))) (λ_=>bT) (λ_=>(cE (lQ T) hr T.gD (ae (pv 0) (ae (cE (gZ T) hr T.ee (ae (pv 0) ai)) ai)))))
   (au (aX (i:=3) fX.nd rfl (Or.inl rfl) (dJ ai))
   (au (aX (i:=4) fX.nd rfl (Or.inl rfl) ak)
   (au (d6 PassesOwn.never rfl (b6 rfl T.range (ae (pv 1) ai)) (aK (i:=5) fX.nd)
    (au (aX (i:=6) fX.nd rfl (Or.inl rfl) (bA a9 (by rfl) T.len aT (ae (pv 3) ai)))
   (au (aX (i:=7) fX.nd rfl (Or.inl rfl) (cE (xp T) hr T.kv (ae (pv 2) (ae (pv 6) (ae (pv 5) ai)))))
   (az (cG (a8 HC (pv 7) zB (bp _)) (au (aX (i:=2) fX.nd rfl (Or.inl rfl) (cE (BY T) hr T.pZ (ae (cE (xr T) hr T.kx (ae (pv 2) (ae (pv 7) (ae (pv 6) ai)))) (ae (pv 6) (ae (pv 5) (ae (pv 4) ai))))))
   (au (aX (i:=4) fX.nd rfl (Or.inl rfl) (ba bM (ba bM (pv 2) (pv 6)) (pv 5)))
   (az (iZ (sX cJ dF dE jg (pv 3) (ae (pv 5) ai)))))) bL)))))
   (az (aR (cy (ae (kH za (pv 2) oo (oj (bA a9 (by rfl) T.len aT (ae (pv 3) ai)))) (ae (pv 3) ai))))))))),?_⟩
  refine aN (σ:=[some (.ref p),some (.int n),none,none,none,none,none,none]) rfl ?_;obtain ⟨xs,gx,qx,_⟩:=id G;obtain ⟨W,hW,W2,ent⟩:=F.ent;obtain ⟨_,_,_,_,_,_,_,_,r15,r89⟩:=id F;exists ⟨⟨_,bD.of gx⟩,?_⟩;refine cO (K:=K) (as:=rows) (F:=cA K H0) (λ(H:Hp) (zs:List Int) (v:V)=>∃q,v=V.ref q/\H q=some (.lst (zs.map V.int))) fw gx qx (by lia) (λa b=>a.same b) (λ⟨q,a,b⟩ s=>⟨q,a,s _ _ b⟩) ?_ ?_
  ·rintro i qs v H' NY NN ec s' ⟨u,rfl,_,R⟩ k1;have mx:=av ec;obtain ⟨M,hM⟩:=F.rowM mx;obtain ⟨b1,sb⟩:=hM.bot;have lq:(qs.map nm).length<=1000:=by rw[ag,hw qs mx];lia
   exists ⟨u,_,M,rfl,R.rowK,lq,hM,λH2 s2=>?_⟩;exists ⟨u,_,M,_,rfl,(R.same s2).rowK,lq,hM,b1,sb,λr H3 n3 s3 g3=>k1 _ _ (s2.trans s3) ⟨r,rfl,g3⟩⟩
  rintro ys H1 lp0 hlp s1 g1 pr1 nx1;exists dd λqp H2 s2 nq gq=>?_
  have G2:og qp H2 lp0 (rows.map fw):=⟨(λz=>by rw[z,nq] at g1;cases g1),ys,s2 _ _ g1,Paired.imp' (λ_ _ ⟨q,a,b⟩=>⟨q,a,(λz=>by rw[z,nq] at b;cases b),s2 _ _ b⟩) pr1⟩;have hq0:H qp=none:=s1.none nq;have s02:=s1.trans s2;have hm:(rows.map fw).length=rows.length:=ag ..;clear g1 pr1 nx1;exists ⟨by lia,by lia,?_⟩;refine eF (n:=n) (λP σ' H'=>aF H H'/\∃lp ls ps d y1 y2 y3,σ'=[some (.ref p),some (.int n),some (.ref lp),some (.ref qp),some (.int d),y1,y2,y3]/\H' qp=some (.lst (ck ps))/\og qp H' lp ls/\yN (rows.map fw) n P ls ps d) ⟨s02,lp0,rows.map fw,[],1,_,_,_,rfl,gq,G2,yN.start λzs hz=>by obtain ⟨x,hx,rfl⟩:=ay.mp hz;rw[qd];exact hw x hx⟩ ?_ ?_
  ·rintro P σ' H' hP ⟨s',lp,ls,ps,d,y1,y2,y3,rfl,gq',G',I⟩;have hl:=I.len;have kP:=I.el.kP;have km:=I.el.km;have lps:(ck ps).length=ps.length:=ag ..;have hqp:H' qp≠none:=by rw[gq'];exact λz=>nomatch z
   obtain ⟨z1,z2⟩:=I.sz (r:=min rows.length n) hW ent (by lia) (by rw[hm];exact ao _) r15;have big:(16*W)^min rows.length n < 2^8999:=aV (sE W2) (dH (by decide) (by lia));exists ⟨_,_,rfl,.inl (bD.of gq'),?_⟩;rw[lps];exists ⟨qp,lp,ls,ps.length,P,rfl,G',by lia,by lia,λzs hz=>by rw[I.wide zs hz];exact hP,λt h1 h2 h3=>?_,λhz=>?_⟩
   ·exists ⟨rfl,_,rfl,?_⟩;rw[show decide (V.int (t:Int)=V.non)=false from decide_eq_false (λz=>nomatch z)];exists ⟨qp,lp,ls,t,ps.length,rfl,hqp,G',by lia,h2,by lia,λl1 Ha na sa Ga=>?_⟩;exists ⟨qp,l1,_,ps.length,P,n,d,rfl,λz=>hqp (sa.none z),Ga,by rw[rO];lia,by rw[rO];lia,CF I.wide (by lia) h2,by lia,hP,I.d0,aV z1 big,λzs hz z hz'=>?_,λl2 Hb nb sb Gb=>?_⟩
    ·unfold kW at hz;have key:∀ys,ys∈ls->∀z∈ys,Sz 8999 z:=λys hy z hz=>aV (z2 ys hy z hz) big
     rcases bY hz with h | h
     ·rcases bY h with h | h
      ·exact key zs h z hz'
      ·rw[h] at hz';exact key _ (getD_in h2) z hz'
     ·rw[h] at hz';exact key _ (getD_in (by lia)) z hz'
    have sab:=sa.trans sb;have I2:=I.step hW ent h1 h2 h3;have hk2:ps.length < (Bo (kW ls ps.length t) ps.length P d).length:=by rw[FP,rO];lia
    obtain ⟨n2,xs2,gx2,qx2⟩:=id Gb;obtain ⟨zk,vk,ek,evk,mk,qk,rfl,_,gk⟩:=fH qx2 hk2;have wk:=I2.wide zk mk;exists cg (bD.of gx2) (eG evk) ?_;exists cg (bD.of gk) (Au (by lia)) ?_;have gqb:=sab _ _ gq';exists ⟨.inl ⟨rfl,_,bD.of gqb⟩,?_⟩;exists jf gqb (bc (by lia)) ?_;refine ⟨(s'.trans sab).after hq0,l2,_,ps++[P],_,_,_,_,rfl,?_,Gb.upd,?_⟩
    ·rw[aH];unfold ck;rw[bH];rfl
    ·have e:(Bo (kW ls ps.length t) ps.length P d).getD ps.length []=zk:=by rw[aa,ek];rfl
     rw[e] at I2;exact I2
   ·exists ⟨rfl,_,rfl,?_⟩;rw[show decide (V.non=V.non)=true from decide_eq_true rfl];exists ⟨s',lp,ls,ps,d,_,_,_,rfl,gq',G',I.skip hz⟩
  rintro σ' H' ⟨s',lp,ls,ps,d,y1,y2,y3,rfl,gq',G',I⟩;obtain ⟨R,hR⟩:=I.done hw F;have lps:(ck ps).length=ps.length:=ag ..;obtain ⟨nl,xs',gx',qx'⟩:=id G';exists ⟨_,_,rfl,.inl (bD.of gq'),?_⟩;rw[lps];exists vf (bD.of gx') λsl H3 s3 n3 g3=>?_
  rw[FN] at g3;exists bN λt H4 s4 g4=>?_
  have s34:=s3.trans s4;exact k t sl qp R ps d _ H4 g4 (s34 _ _ gq') ⟨(λz=>by rw[z,gq'] at n3;cases n3),_,s4 _ _ g3,Paired.imp' (λ_ _ z=>Dy.same z s34) (nH qx' ps.length)⟩ (s'.trans s34) hR
theorem rR:aU ["top","bottom","divisor"] ["top","bottom"] (aJ u0):=by walk_at "d"
theorem xW (T:Txt K mg Z):cz P w K mg base fb 2 Z.Bu Z.Bm ["top","bottom"] DM:=by
 refine T.ox.F.ok rR (λvs H Q E h=>?_) (λcdv A outer s H vs Q E hr h=>?_)
 ·obtain ⟨t,b,rfl,_⟩:=h;rfl
 ·obtain ⟨t,b,rfl,hb,hs,k⟩:=h
  refine ⟨_,(au (aX (i:=2) rR.nd rfl (Or.inl rfl) (cE (gB T) hr T.dN (ae (pv 0) (ae (pv 1) ai))))
   (au (cG (a8 oM (pv 1) ak (bp _)) (az (aX (i:=2) rR.nd rfl (Or.inl rfl) (vo pF (pv 2)))) bL)
   (az (aR (cy (ae (bx gs (pv 0) (pv 2)) (ae (bx gs (pv 1) (pv 2)) ai))))))),?_⟩
  refine aN (σ:=[some (.int t),some (.int b),none]) rfl ?_;exists ⟨t,b,rfl,?_⟩;have hg:=vS (t:=t) hb
  have hgs:Sz 8999 (g t b):=hs.le (by
   have h1:(g t b).natAbs=Int.gcd t b:=by unfold g;simp
   rw[h1];exact fU (by lia) (by have:=dQ (a:=t) (b:=b);exact dw.mpr this |> λz=>by simpa using z))
  have hgn:g (-t) (-b)=g t b:=by unfold g;rw[Int.gcd_neg,Int.neg_gcd]
  exists fK (λh=>?_) (λh=>?_)
  ·have hb0:b < 0:=of_decide_eq_true h;exists eK (show mN _ _ from ⟨by lia,hgs.neg⟩) ?_;exists eK (show mN _ _ from ⟨by lia,hgs.neg⟩) ?_;exists bN λr H' s' h'=>?_
   have e1:t.fdiv (-g t b)=lo (-t) (-b):=by
    unfold Nm.lo;rw[hgn,<- b9 _ (by lia),<- Int.neg_fdiv_neg (-t),Int.neg_neg]
   have e2:b.fdiv (-g t b)=hi (-t) (-b):=by
    unfold Nm.hi;rw[hgn,<- b9 _ (by lia),<- Int.neg_fdiv_neg (-b),Int.neg_neg]
   exact k r H' s' (by rw[if_pos hb0,if_pos hb0,<- e1,<- e2];exact h')
  ·have hb0:¬b < 0:=λz=>h (decide_eq_true z)
   exists eK (show mN _ _ from ⟨by lia,hgs⟩) ?_;exists eK (show mN _ _ from ⟨by lia,hgs⟩) ?_;exists bN λr H' s' h'=>?_
   rw[b9 _ (by lia),b9 _ (by lia)] at h';exact k r H' s' (by rw[if_neg hb0,if_neg hb0];exact h')
theorem uW:aU ["rows","wide","found"] ["rows","wide"] (aJ rW):=by walk_at "d"
theorem vz (T:Txt K mg Z):cz P w K mg base fb 5 Z.yG Z.yo ["rows","wide"] (sU K):=by
 refine T.l5.F.ok uW (λvs H Q E h=>?_) (λcdv A outer s H vs Q E hr h=>?_)
 ·obtain ⟨p,n,w,H0,rows,rfl,_⟩:=h;rfl
 ·obtain ⟨p,n,w,H0,rows,rfl,G,r100,n100,hw,F,k⟩:=h
  refine ⟨_,(au (aX (i:=2) uW.nd rfl (Or.inl rfl) (cE (EZ T) hr T.vI (ae (pv 0) (ae (pv 1) ai))))
   (az (aR (bJ ["line","lead"] [] [] (zx rfl T.zip (ae (ba bW (pv 2) ak) (ae (ba bW (pv 2) ak) ai))) (λ_=>(qE K 2 (c4 (aK (i:=0) (show ND9 ["line","lead"] by decide +kernel) rfl (Or.inr rfl) (Or.inl rfl)) (c4 (aK (i:=1) (show ND9 ["line","lead"] by decide +kernel) rfl (Or.inr rfl) (Or.inl rfl)) jP)))) (λ_=>bT) (λ_=>(bJ ["top"] ["line","lead"] [0,1] (vn K (pv 0)) (λ_=>(aK (i:=0) (show ND9 ["top","line","lead"] by decide +kernel))) (λ_=>bT) (λ_=>(cE (xW T) hr T.ox (ae (pv 0) (ae (ba (eZ K (by rfl)) (pv 1) (pv 2)) ai)))))))))),?_⟩
  refine aN (σ:=[some (.ref p),some (.int n),none]) rfl ?_;obtain ⟨_,_,_,_,_,_,_,_,r15,r89⟩:=id F;exists ⟨p,n,w,H0,rows,rfl,G,r100,n100,hw,F,λt lp qp R ps d ls H1 gt gq G1 s1 S=>?_⟩;obtain ⟨lR,wR,RR⟩:=id S.rr;have hl:=S.len;obtain ⟨_,xs,gx,qx⟩:=id G1;have lx:=qx.length;have lps:(ck ps).length=ps.length:=ag ..;have d0:(d:Rat)≠0:=λz=>S.d0 (nW z)
  have dsz:Sz 8999 d:=aV S.dsz (dH (by decide) (by lia))
  have km:ps.length<=n:=by
   rcases bR n ps.length with z | z
   ·have inc:∀j,j < ps.length->j<=ps.getD j 0:=by
     intro j
     induction j with
     | zero=>intro _;exact bo _
     | succ j ih =>
      intro hj;have:=ih (by lia);have:=RR.inc j (j+1) (by lia) hj
      lia
    have h1:=inc (ps.length - 1) (by lia);have h2:=RR.low (ps.length - 1) (by lia)
    lia
   ·exact z
  exists ⟨⟨_,bD.of gx⟩,⟨_,bD.of gq⟩,?_⟩;refine wb (K:=K) (xs:=xs) (ws:=ck ps) (λi ys H'=>aF H1 H'/\Paired (cA K H1 H') (R.take i) ys) (aL (bc (by lia))) (by lia) ⟨aF.refl _,.nil⟩ (λi ys H' _ ⟨s,_⟩=>⟨bD.of (s _ _ gx),bD.of (s _ _ gq)⟩) ?_ ?_
  ·rintro i v1 v2 ys H' r h1 h2 hy ⟨s,pr⟩ hr;obtain ⟨zs,ez,q,rfl,_,gq1⟩:=cw qx h1;have hi:i < ls.length:=(aA.mp ez).1;have mz:=av ez;have wz:=S.wide zs mz
   obtain ⟨j,ej,rfl⟩:∃j:Nat,ps[i]?=some j/\V.int (j:Int)=v2:=by
    unfold ck at h2;rw[aD] at h2;cases e:ps[i]? with
    | none=>rw[e] at h2;cases h2
    | some x=>rw[e] at h2;exact ⟨x,rfl,bQ h2⟩
   have ej':ps.getD i 0=j:=by rw[aa,ej];rfl
   have jn:j < n:=by have:=RR.low i (by lia);rw[ej'] at this;exact this
   have sr:aF H' (upd H' r (.tup [.ref q,.int j])):=aF.new hr;have gr:(upd H' r (.tup [.ref q,.int j])) r=some (.tup [.ref q,.int j]):=aH;generalize upd H' r (.tup [.ref q,.int j])=H2 at sr gr ⊢;have s2:=s.trans sr;have iR:i < R.length:=by lia
   have eR:=af iR;have wRi:=wR _ (aZ iR)
   have ed:zs.getD j 0=d:=by
    have h:=S.val i j;rw[IZ ez] at h;have u:=RR.unit i (by lia) i (by lia);rw[if_pos rfl,ej'] at u;rw[u,FU] at h;exact cZ.mp h
   have val:∀c,((zs.getD c 0:Int):Rat)=(d:Rat)*(R[i]).getD c 0:=λc=>by
    have h:=S.val i c;rw[IZ ez] at h;rw[h];unfold b7;rw[aa (l:=R),eR];rfl
   exists ⟨⟨_,bD.of (s2 _ _ gq1)⟩,?_⟩;refine cW (K:=K) (xs:=zs.map V.int) (λc ys' H3=>aF H2 H3/\Paired (bX K H3) ((R[i]).take c) ys') (aL (bc (by rw[ag];lia))) ⟨aF.refl _,.nil⟩ (λc ys' H3 _ ⟨s3,_⟩=>bD.of ((s2.trans s3) _ _ gq1)) ?_ ?_
   ·rintro c x ys' H3 hx hlen ⟨s3,pr3⟩
    obtain ⟨z,ec,rfl⟩:∃z,zs[c]?=some z/\V.int z=x:=by
     rw[aD] at hx;cases e:zs[c]? with
     | none=>rw[e] at hx;cases hx
     | some x=>rw[e] at hx;exact ⟨x,rfl,bQ hx⟩
    have hc:c < zs.length:=(aA.mp ec).1;have vc:=val c;have e1:zs.getD c 0=z:=by rw[aa,ec];rfl
    rw[e1] at vc;exists cg (bD.of ((s2.trans s3) _ _ gq1)) (Au (by lia)) ?_;rw[ed];exists ⟨z,d,rfl,S.d0,dsz,λr4 H4 s4 g4=>?_⟩;have ec':(R[i])[c]?=some ((R[i]).getD c 0):=by rw[aa,af (show c < (R[i]).length by lia)];rfl
    refine ⟨s3.trans s4,?_⟩;rw[take_snoc ec'];refine bP (Paired.imp' (λ_ _ z=>bX.same z s4) pr3) (.cons (bX.mk g4 ?_) .nil);rcases Int.lt_or_lt_of_ne S.d0 with hd | hd
    ·rw[if_pos hd,if_pos hd];refine mC (by lia) ?_;rw[dj,dj,vc];grind
    ·rw[if_neg (by lia),if_neg (by lia)];refine mC hd ?_;rw[vc];grind
   ·rintro ys' H3 hy' ⟨s3,pr3⟩ l4 hl4;have sn:aF H3 (upd H3 l4 (.lst ys')):=aF.new hl4;refine ⟨(s2.trans s3).trans sn,?_⟩;rw[take_snoc eR];rw[aG (by rw[ag];lia)] at pr3;exact bP (Paired.imp' (λ_ _ z=>cA.same z ((sr.trans s3).trans sn)) pr) (.cons ⟨l4,rfl,(s2.trans s3).none hl4,ys',aH,Paired.imp' (λ_ _ z=>bX.same z sn) pr3⟩ .nil)
  ·rintro ys H' hy ⟨s,pr⟩ r hr;have sn:aF H' (upd H' r (.lst ys)):=aF.new hr;rw[aG (by lia)] at pr;refine k r R ps d.natAbs _ (s1.none (s.none hr)) ((s1.trans s).trans sn) ⟨ys,aH,Paired.imp' (λ_ _ z=>(cA.weak z s1).same sn) pr,fz (H0:=H1) (rows:=R) ⟨H',hr,pr⟩⟩ S.rr S.km ?_ S.dsz S.tp;have:=S.d0
   lia
theorem kX:aU ["one","other","one_bottom","other_bottom","pairs"] ["one","other"] (aJ rV):=by walk_at "d"
theorem BW (T:Txt K mg Z):cz P w K mg base fb 4 Z.yF Z.yn ["one","other"] (y8 K):=by
 refine T.pX.F.ok kX (λvs H Q E h=>?_) (λcdv A outer s H vs Q E hr h=>?_)
 ·obtain ⟨p,q,xs,ys,rfl,_⟩:=h;rfl
 ·obtain ⟨p,q,xs,ys,rfl,hp,hq,hl,hz,⟨k1,j1,k2,j2,h1,h2,hkj⟩,kk⟩:=h
  refine ⟨_,(au (aX (i:=2) kX.nd rfl (Or.inl rfl) (cE (gZ T) hr T.ee (ae (pv 0) ai)))
   (au (aX (i:=3) kX.nd rfl (Or.inl rfl) (cE (gZ T) hr T.ee (ae (pv 1) ai)))
   (au (aX (i:=4) kX.nd rfl (Or.inl rfl) (BU rfl T.list rfl T.zip (ae (cE (lQ T) hr T.gD (ae (pv 0) (ae (pv 2) ai))) (ae (cE (lQ T) hr T.gD (ae (pv 1) (ae (pv 3) ai))) ai))))
   (az (aR (cE (xW T) hr T.ox (ae (bA (FQ rfl) (by rfl) T.sum PyProof.Rows.boot_sum (ae (bJ ["mine","yours"] [] [] (bV (pv 4)) (λ_=>(qE K 2 (c4 (aK (i:=0) (show ND9 ["mine","yours"] by decide +kernel)) (c4 (aK (i:=1) (show ND9 ["mine","yours"] by decide +kernel)) jP)))) (λ_=>bT) (λ_=>(bx cK (pv 0) (pv 1)))) ai)) (ae (bx cK (pv 2) (pv 3)) ai)))))))),?_⟩
  refine aN (σ:=[some (.ref p),some (.ref q),none,none,none]) rfl ?_;obtain ⟨M,h1⟩:=h1.rowM (by lia);obtain ⟨N,h2⟩:=h2.rowM (by lia);replace hp:=hp.rowK;replace hq:=hq.rowK;replace hl:(ys.map nm).length=(xs.map nm).length:=by simpa using hl
  replace hz:(xs.map nm).length<=1000:=by simpa using hz
  obtain ⟨b1,s1⟩:=h1.bot;obtain ⟨b2,s2⟩:=h2.bot;have k2:∀r H',aF H H'->H' r=some (.tup [.int (lo (FI (xs.map nm) (ys.map nm)) (eQ (xs.map nm)*eQ (ys.map nm))),.int (hi (FI (xs.map nm) (ys.map nm)) (eQ (xs.map nm)*eQ (ys.map nm)))])->Q (.ref r) H':=λr H' s g=>kk r H' s (bX.mk g (HR b1 b2))
  clear kk;generalize xs.map nm=ns at hp hq hl hz h1 h2 b1 b2 s1 s2 k2;generalize ys.map nm=ms at hp hq hl hz h1 h2 b1 b2 s1 s2 k2;have hb:0 < eQ ns*eQ ms:=gQ b1 b2;exists ⟨p,ns,M,rfl,hp,hz,h1,λH1 t1=>?_⟩;exists ⟨q,ms,N,rfl,hq.same t1,by lia,h2,λH2 t2=>?_⟩;have u2:=t1.trans t2;exists ⟨p,ns,M,_,rfl,hp.same u2,hz,h1,b1,s1,λr1 H3 n3 t3 g3=>?_⟩;exists ⟨q,ms,N,_,rfl,(hq.same u2).same t3,by lia,h2,b2,s2,λr2 H4 n4 t4 g4=>?_⟩;exists ⟨r1,r2,_,_,rfl,bD.of (t4 _ _ g3),bD.of g4,by simp [dW,hl],λL ts H5 t5 n5 g5 pr=>?_⟩;have lt:=pr.length;have ll:(dW ns (eQ ns)).length=ns.length:=by simp [dW]
  have lm:(dW ms (eQ ms)).length=ns.length:=by simp [dW,hl]
  rw[wZ,ag,ag,ll,lm] at lt;exists ⟨⟨_,bD.of g5⟩,?_⟩;refine cW (K:=K) (xs:=ts) (λi ys H'=>H'=H5/\ys=((List.zipWith (λx y=>x*y) (dW ns (eQ ns)) (dW ms (eQ ms))).take i).map V.int) (aL (bc (by lia))) ⟨rfl,rfl⟩ (λi ys H' _ ⟨e,_⟩=>by subst e;exact bD.of g5) ?_ ?_
  ·rintro i x ys H' hx hlen ⟨rfl,rfl⟩;obtain ⟨pq,epq,T,rfl,gT⟩:=cw pr hx;obtain ⟨t,u,et,eu,rfl⟩:=F5 epq;exists eK (show fe _ _ from .inr ⟨_,_,Ax h1 b1 s1 (av et),Ax h2 b2 s2 (av eu),by decide⟩) ?_;have ez:(List.zipWith (λx y=>x*y) (dW ns (eQ ns)) (dW ms (eQ ms)))[i]?=some (t*u):=by rw[du,et,eu]
   exact ⟨rfl,by rw[take_snoc ez];simp⟩
  ·rintro ys H' hy ⟨rfl,rfl⟩ l hl';exists ⟨l,List.zipWith (λx y=>x*y) (dW ns (eQ ns)) (dW ms (eQ ms)),rfl,bD.of (by rw[aH,aG (by rw[cR];lia)]),?_⟩;exists eK (show fe _ _ from .inr ⟨_,_,s1,s2,by decide⟩) ?_;exists ⟨_,_,rfl,by lia,(s1.mul s2).mono (by decide),λr H6 t6 g6=>?_⟩;rw[if_neg (by lia),if_neg (by lia)] at g6;exact k2 r H6 ((((u2.trans t3).trans t4).trans t5).trans ((aF.new hl').trans t6)) g6
theorem BL:aU ["grid","row"] ["grid","row"] (aJ rZ):=by walk_at "d"
theorem lS (T:Txt K mg Z):cz P w K mg base fb 5 Z.yJ Z.yr ["grid","row"] (y7 K):=by
 refine T.hZ.F.ok BL (λvs H Q E h=>?_) (λcdv A outer s H vs Q E hr h=>?_)
 ·obtain ⟨p,q,H0,rows,ys,rfl,_⟩:=h;rfl
 ·obtain ⟨p,q,H0,rows,ys,rfl,hp,hq,hz,hl,hr1,kk⟩:=h;refine ⟨_,(az (aR (bJ ["line"] ["row"] [1] (bV (pv 0)) (λ_=>(aK (i:=0) (show ND9 ["line","row"] by decide +kernel))) (λ_=>bT) (λ_=>(cE (BW T) hr T.pX (ae (pv 0) (ae (pv 1) ai))))))),?_⟩;refine aN (σ:=[some (.ref p),some (.ref q)]) rfl ?_;obtain ⟨xs,gx,qx,_⟩:=id hp;exists ⟨⟨_,bD.of gx⟩,?_⟩;refine cO (K:=K) (F:=cA K H0) (bX K) (λxs=>eh xs ys) gx qx hz (λa b=>a.same b) (λa b=>a.same b) ?_ ?_
  ·rintro i ns x H' NY NN en s ⟨u,rfl,_,hu⟩ k;obtain ⟨e1,e2⟩:=hr1 ns (av en);exists ⟨u,q,ns,ys,rfl,hu,hq.same s,e1.symm,by lia,e2,λr H2 s2 h2'=>k _ _ s2 h2'⟩
  ·rintro ys' H' r hr s g pr nx;exact kk r H' hr s ⟨ys',g,pr⟩
theorem xj:aU ["system","rows"] ["system","rows"] (aJ k6):=by walk_at "d"
theorem xn (T:Txt K mg Z):cz P w K mg base fb 6 Z.rk Z.qR ["system","rows"] (xJ K Z.a_System):=by
 refine T.ks.F.ok xj (λvs H Q E h=>?_) (λcdv A outer s H vs Q E hr h=>?_)
 ·obtain ⟨x,p,H0,H1,mv,pt,lk,R,rfl,_⟩:=h;rfl
 ·obtain ⟨x,p,H0,H1,mv,pt,lk,R,rfl,S,D,G,l100,wR,hf,k⟩:=h;refine ⟨_,(az (aR (bJ ["row"] ["system"] [0] (bV (pv 1)) (λ_=>(aK (i:=0) (show ND9 ["row","system"] by decide +kernel))) (λ_=>bT) (λ_=>(cE (lS T) hr T.hZ (ae (Hw K (pv 1) rfl) (ae (pv 0) ai))))))),?_⟩;refine aN (σ:=[some (.ref x),some (.ref p)]) rfl ?_;obtain ⟨dx,a',b',c',gx,_,_,_,Ga,Gb,Gc⟩:=id S;have d8:=D.n8;obtain ⟨xs,gxs,qx,_⟩:=id G;exists ⟨⟨_,bD.of gxs⟩,?_⟩;refine cO (K:=K) (F:=cA K H1) (cA K H) (oB mv) gxs qx (by lia) (λa b=>a.same b) (λa b=>a.same b) ?_ ?_
  ·rintro i ns v H' NY NN en s ⟨u,rfl,_,hu⟩ k1;have mn:=av en;exists ⟨x,Z.a_System,dx,_,_,rfl,s _ _ gx,T.cl_System,T.na_move,qe,?_⟩;exists ⟨a',u,H0,mv,ns,rfl,Ga.same s,hu,by lia,by rw[wR ns mn];lia,λxs hx=>⟨by rw[D.mw xs hx,wR ns mn],hf xs hx ns mn⟩,λr H2 nr s2 R2=>k1 _ _ s2 ⟨r,rfl,s.none nr,R2⟩⟩
  ·rintro ys H' r hr s g pr nx;exact k r H' hr s ⟨ys,g,pr,fz nx⟩
theorem jk:aU ["system","steps","lists","rows"] ["system","steps"] (aJ ka):=by walk_at "d"
theorem vA (T:Txt K mg Z):cz P w K mg base fb 7 Z.o3 Z.oQ ["system","steps"] (xN K Z.a_System):=by
 refine T.jy.F.ok jk (λvs H Q E h=>?_) (λcdv A outer s H vs Q E hr h=>?_)
 ·obtain ⟨x,a,c,st,H0,mv,pt,lk,rfl,_⟩:=h;rfl
 ·obtain ⟨x,a,c,st,H0,mv,pt,lk,rfl,s1000,S,D,F,k⟩:=h
  refine ⟨_,(au (aX (i:=2) jk.nd rfl (Or.inl rfl) (dJ (ae (dJ ai) ai)))
   (au (vg PassesOwn.never (a8 Ld (bA a9 (by rfl) T.len aT (ae (pv 2) ai)) (pv 1) (bp _))
    (au (aX (i:=3) jk.nd rfl (Or.inl rfl) (cE (vz T) hr T.l5 (ae (bx lN (eT (pv 0) rfl) (cE (xn T) hr T.ks (ae (pv 0) (ae (ba bM (pv 2) (vo pF ak)) ai)))) (ae (eT (pv 0) rfl) ai))))
   (au (cG (a8 d9 (bA a9 (by rfl) T.len aT (ae (pv 3) ai)) (bA a9 (by rfl) T.len aT (ae (ba bM (pv 2) (vo pF ak)) ai)) (bp _)) (az (aR (pv 2))) bL)
   (az (iZ (sX cJ dF dE jg (pv 2) (ae (pv 3) ai)))))))
   (az (aR (pv 2))))),?_⟩
  refine aN (σ:=[some (.ref x),some (.int st),none,none]) rfl ?_;obtain ⟨dx,a',b',c',gx,_,_,_,Ga,Gb,Gc⟩:=id S;have d8:=D.n8;have i4:=D.i4;have lP:=fA (mv:=mv) (pt:=pt) rfl D.pw;exists dd λq0 H1 s1 nq0 g1=>?_
  exists dd λl H2 s2 nl g2=>?_
  have s02:=s1.trans s2;have nl0:H l=none:=s1.none nl;obtain ⟨Hz,eHz⟩:∃Hz,Hz=upd H l (.lst []):=⟨_,rfl⟩;have zl:Hz l≠none:=by rw[eHz,aH];exact λz=>nomatch z
  have zn:∀q,Hz q=none->H q=none/\q≠l:=λq h=>by
   have ne:q≠l:=λz=>zl (by rw[<- z];exact h)
   rw[eHz,a7 ne] at h;exact ⟨h,ne⟩
  have nz:∀q,H q=none->q≠l->Hz q=none:=λq h ne=>by rw[eHz,a7 ne];exact h
  clear eHz;have q0l:q0≠l:=λz=>by rw[z,nl] at g1;cases g1
  have G0:bg K Hz H2 q0 []:=⟨[],s2 _ _ g1,.nil,λz=>nomatch z⟩;exists yU (λσ' H'=>aF H H'/\∃Rs R us y,σ'=[some (.ref x),some (.int st),some (.ref l),y]/\H' l=some (.lst us)/\Paired (λR v=>∃q,v=V.ref q/\Hz q=none/\bg K Hz H' q R) (Rs++[R]) us/\wQ mv pt (Rs++[R])/\Rs.length<=st) (λ_ H'=>match H' l with | some (.lst us)=>st+1 - us.length | _=>0) ⟨s02,[],[],_,_,rfl,g2,.cons ⟨q0,rfl,nz q0 nq0 q0l,G0⟩ .nil,⟨by simp,λt R e=>?_,λt R R' e e'=>?_⟩,bo _⟩ ?_
  ·have ht:=(aA.mp e).1;have:t=0:=by simpa using ht
   subst this;cases e;exact ⟨[],BO⟩
  ·have ht:=(aA.mp e').1;simp at ht
  rintro σ' Ha ⟨sa,Rs,R,us,y,rfl,gu,pa,Gw,hst⟩;have lu:=pa.length;rw[aw,aS] at lu;have eR:(Rs++[R])[Rs.length]?=some R:=by rw[bu (ao _),j4];rfl
  obtain ⟨ps,RR⟩:=Gw.rr _ _ eR;have tn:Rs.length<=mv.length:=by have:=Gw.len _ _ eR;have:=RR.le;have:=RR.1;lia
  have fin:∀(Hx:Hp) (sx:aF Ha Hx) (hh:∀s,(Rs.length=st/\s=st\/Rs.length < st/\Rs.length<=s)->∃ps,bB (kry mv pt s) mv.length R ps),Q (.ref l) Hx:=λHx sx hh=>by
   refine k l (Rs++[R]) Hx nl0 (sa.trans sx) ⟨us,sx _ _ gu,Paired.imp' (λ_ _ ⟨q,e1,e2,e3⟩=>⟨q,e1,(zn q e2).1,(zn q e2).2,bg.weakN (bg.same e3 sx) λq h=>(zn q h).1⟩) pa⟩ Gw (by rw[aw,aS];lia) λR2 e2 s hs=>?_
   rw[List.getLast?_concat] at e2;cases e2;rw[aw,aS,Nat.add_sub_cancel] at hs;exact hh s hs
  exists ⟨_,_,rfl,.inl (bD.of gu),?_⟩;exists fK (λh0=>?_) (λh0=>?_)
  ·have h0:=of_decide_eq_true h0;refine Iy ?_
   obtain ⟨zs,gS⟩:∃zs q,us=zs++[V.ref q]/\Hz q=none/\bg K Hz Ha q R:=by
    obtain ⟨v,ev,q,rfl,e2,e3⟩:∃v,us[Rs.length]?=some v/\∃q,v=V.ref q/\Hz q=none/\bg K Hz Ha q R:=by
     have ev:=af (show Rs.length < us.length by lia);obtain ⟨R2,e2,w⟩:=cw pa ev;rw[eR] at e2;cases e2;exact ⟨_,ev,w⟩
    refine ⟨us.take Rs.length,q,?_,e2,e3⟩;rw[<- take_snoc ev,aG (by lia)]
   obtain ⟨q,rfl,zq,Gq⟩:=gS;have gxa:=sa _ _ gx;exists ⟨x,Z.a_System,dx,_,_,rfl,gxa,T.cl_System,T.na_put,y4,?_⟩;exists cg (bD.of gu) (wo _ _) ?_;have wR:=RR.2.1;have lR:=RR.1;have pn:=RR.le;exists ⟨x,q,H0,Hz,mv,pt,lk,R,rfl,S.same sa,D,Gq,by lia,wR,F.fit d8 D.mw D.pw tn RR,λmr Hb nmr sb Gm=>?_⟩;obtain ⟨pv,gpv,qpv,_⟩:=Gb.same (sa.trans sb);obtain ⟨mvs,gmv,qmv,_⟩:=id Gm;have lpv:=qpv.length;have lmv:=qmv.length;rw[ag] at lmv;exists lI gpv gmv (aL (bc (by lia))) λcr Hc sc nc gc=>?_
   have sab:=sa.trans (sb.trans sc);have Gc':bg K (λ_=>none) Hc cr (pt++R.map (oB mv)):=sO (H:=Hb) (bP (Paired.imp' (λ_ _ ⟨q,e1,e2,e3⟩=>⟨q,e1,rfl,e3⟩) qpv) (Paired.imp' (λ_ _ ⟨q,e1,e2,e3⟩=>⟨q,e1,rfl,e3⟩) qmv)) sc nc gc;exists ⟨x,Z.a_System,dx,_,_,rfl,sab _ _ gx,T.cl_System,T.na_states,kU,?_⟩;exists ⟨cr,mv.length,_,_,_,rfl,Gc',by rw[aw,ag];lia,by lia,λxs hx=>?_,F.step d8 D.mw D.pw tn RR,λrr R' ps' M' Hd nrr sd G' RR' pm' _ _ _=>?_⟩
   ·rcases ax.mp hx with hx | hx
    ·exact D.pw xs hx
    ·obtain ⟨y,_,rfl⟩:=ay.mp hx;exact pV
   have sbd:=sb.trans (sc.trans sd);have sad:=sa.trans sbd;have K1:=qK rfl D.mw D.pw RR RR';have gud:=sbd _ _ gu;obtain ⟨rv,grv,qrv,_⟩:=id G';have lrv:=qrv.length;have lR':=RR'.1;have pn':=RR'.le;exists ⟨_,_,rfl,.inl (bD.of grv),?_⟩;exists cg (bD.of gud) (wo _ _) ?_;obtain ⟨ov,gov,qov,_⟩:=Gq.same sbd;have lov:=qov.length;exists ⟨_,_,rfl,.inl (bD.of gov),?_⟩;exists fK (λh1=>?_) (λh1=>?_)
   ·have h1:=of_decide_eq_true h1;exists fin Hd sbd λs hs=>⟨ps,?_⟩
    obtain ⟨s',rfl⟩:∃s',s=Rs.length+s':=⟨s - Rs.length,by lia⟩;exact yd rfl D.mw D.pw RR RR' (by lia) s'
   ·have h1:¬((rv.length:Int)=ov.length):=λz=>h1 (decide_eq_true z)
    have gr:=Be rfl D.mw D.pw RR K1;have rl:rr≠l:=λz=>by rw[z,(sb.trans sc) _ _ gu] at nrr;cases nrr
    have zc:∀q,Hc q=none->Hz q=none:=λq h=>nz q (sab.none h) (λz=>by rw[z,(sb.trans sc) _ _ gu] at h;cases h)
    exists ⟨.inl ⟨rfl,_,bD.of gud⟩,?_⟩;exists jf gud (bc (by lia)) ?_;refine ⟨⟨sad.after nl0,Rs++[R],R',_,_,rfl,aH,bP (Paired.imp' (λ_ _ ⟨q,e1,e2,e3⟩=>⟨q,e1,e2,bg.updL (bg.same e3 sbd) gud zl (zn q e2).2⟩) pa) (.cons ⟨rr,rfl,zc rr nrr,bg.updL (G'.weakN zc) gud zl rl⟩ .nil),Gw.snoc K1 (by lia),by rw[aw,aS];lia⟩,?_⟩;simp only[gu,aH,aw,aS] at lu h0 ⊢
    lia
  ·have h0:¬((us.length:Int)<=st):=λz=>h0 (decide_eq_true z)
   walk_at "w"
   exact fin Ha (aF.refl _) λs hs=>⟨ps,by
    have:s=Rs.length:=by lia
    rw[this];exact RR⟩
theorem xi:aU ["system","steps"] ["system","steps"] (aJ kZ):=by walk_at "d"
theorem xm (T:Txt K mg Z):cz P w K mg base fb 8 Z.rj Z.qQ ["system","steps"] (xH K Z.a_System):=by
 refine T.kq.F.ok xi (λvs H Q E h=>?_) (λcdv A outer s H vs Q E hr h=>?_)
 ·obtain ⟨x,a,c,st,H0,mv,pt,lk,rfl,_⟩:=h;rfl
 ·obtain ⟨x,a,c,st,H0,mv,pt,lk,rfl,s1000,S,D,F,k⟩:=h;refine ⟨_,(az (aR (ba bM (cE (vA T) hr T.jy (ae (pv 0) (ae (pv 1) ai))) (vo pF ak)))),?_⟩;refine aN (σ:=[some (.ref x),some (.int st)]) rfl ?_;exists ⟨x,a,c,st,H0,mv,pt,lk,rfl,s1000,S,D,F,λr Rs H1 nr s1 ⟨us,gu,pa⟩ Gw hl hh=>?_⟩;have lu:=pa.length;obtain ⟨Rs',R,rfl⟩:∃Rs' R,Rs=Rs'++[R]:=⟨Rs.dropLast,Rs.getLast Gw.ne,(List.dropLast_concat_getLast Gw.ne).symm⟩;rw[aw,aS] at lu hl;have eR:(Rs'++[R])[Rs'.length]?=some R:=by rw[bu (ao _),j4];rfl
  obtain ⟨zs,q,rfl,zq,ql,Gq⟩:∃zs q,us=zs++[V.ref q]/\H q=none/\q≠r/\bg K H H1 q R:=by
   have ev:=af (show Rs'.length < us.length by lia);obtain ⟨R2,e2,q,e3,e4,e5,e6⟩:=cw pa ev;rw[eR] at e2;cases e2;rw[e3] at ev;refine ⟨us.take Rs'.length,q,?_,e4,e5,e6⟩;rw[<- take_snoc ev,aG (by lia)]
  obtain ⟨ps,RR⟩:=hh R (by rw[List.getLast?_concat]) st (by rw[aw,aS,Nat.add_sub_cancel];lia);exists cg (bD.of gu) (wo _ _) ?_;exact k q R ps H1 zq s1 Gq RR
theorem AQ:aU ["many","at"] ["many","at"] (aJ pL):=by walk_at "d"
theorem sY (T:Txt K mg Z):cz P w K mg base fb 1 Z.wq Z.vW ["many","at"] (AB K):=by
 refine T.jS.F.ok AQ (λvs H Q E h=>?_) (λcdv A outer s H vs Q E hr h=>?_)
 ·obtain ⟨m,a',rfl,_⟩:=h;rfl
 ·obtain ⟨m,a',rfl,hm,k⟩:=h;refine ⟨_,(az (aR (bJ ["place"] ["at"] [1] (b6 rfl T.range (ae (pv 0) ai)) (λ_=>(aK (i:=0) (show ND9 ["place","at"] by decide +kernel))) (λ_=>bT) (λ_=>(EV (a8 d9 (pv 0) (pv 1) (bp _)) (ot (v:=.ref Z.a_ONE) rfl T.mg_ONE rfl) (ot (v:=.ref Z.a_NOUGHT) rfl T.mg_NOUGHT rfl)))))),?_⟩;refine aN (σ:=[some (.int m),some (.int a')]) rfl ?_;exists ⟨by lia,by lia,?_⟩;refine eI (n:=m) (bX K) (λi=>if ((i:Nat):Int)=a' then 1 else 0) hm (λa b=>a.same b) ?_ ?_
  ·rintro i H' NY NN hi s k1;exists fK (λh0=>?_) (λh0=>?_)
   ·exists k1 _ _ (aF.refl _) (by rw[if_pos (of_decide_eq_true h0)];exact ⟨_,rfl,T.sq_ONE _⟩)
   ·exists k1 _ _ (aF.refl _) (by rw[if_neg (λz=>h0 (decide_eq_true z))];exact ⟨_,rfl,T.sq_NOUGHT _⟩)
  ·rintro ys H' l hl s g pr nx;exact k l _ hl s ⟨ys,g,pr⟩
theorem rS:aU ["row"] ["row"] (aJ iS):=by walk_at "d"
theorem sG (T:Txt K mg Z):cz P w K mg base fb 1 Z.mL Z.mI ["row"] (AK K):=by
 refine T.hJ.F.ok rS (λvs H Q E h=>?_) (λcdv A outer s H vs Q E hr h=>?_)
 ·obtain ⟨p,xs,j,rfl,_⟩:=h;rfl
 ·obtain ⟨p,xs,j,rfl,R,x1000,hj,hne,hz,k⟩:=h;refine ⟨_,(az (aR (bA (Ef rfl) (by rfl) T.min PyProof.Rows.boot_min (ae (bJ ["place","value"] [] [] (CV rfl T.enumerate (ae (pv 0) ai)) (λ_=>(qE K 2 (c4 (aK (i:=0) (show ND9 ["place","value"] by decide +kernel)) (c4 (aK (i:=1) (show ND9 ["place","value"] by decide +kernel)) jP)))) (λ_=>zz (a8 (zG K (by rfl) (vR hr)) (pv 1) (ot (v:=.ref Z.a_NOUGHT) rfl T.mg_NOUGHT rfl) (bp _))) (λ_=>(pv 0))) ai)))),?_⟩;refine aN (σ:=[some (.ref p)]) rfl ?_;obtain ⟨zs,gz,qz⟩:=id R;have lz:=qz.length;exists ⟨⟨_,bD.of gz⟩,?_⟩;refine Ee (K:=K) (xs:=zs) (λi ys H'=>aF H H'/\ys=ck (A6 xs i)) (aL (bc (by lia))) ⟨aF.refl _,rfl⟩ (λi ys H' _ ⟨s,_⟩=>bD.of (s _ _ gz)) ?_ ?_
  ·rintro i v ys H' r hx hlen ⟨s',rfl⟩ hr;obtain ⟨y,ey,ny⟩:=cw qz hx;have ey':xs.getD i 0=y:=by rw[aa,ey];rfl
   have sr:aF H' (upd H' r (.tup [.int i,v])):=aF.new hr;have gr:(upd H' r (.tup [.int i,v])) r=some (.tup [.int i,v]):=aH;generalize upd H' r (.tup [.int i,v])=H2 at sr gr ⊢;exists ⟨_,_,C7,y,0,by decide,(ny.same s').same sr,⟨_,rfl,T.sq_NOUGHT _⟩,?_⟩;by_cases e:y=0
   ·rw[decide_eq_true e];exists ⟨s'.trans sr,?_⟩;rw[uw,ey',if_neg (by simpa using e)]
   ·rw[decide_eq_false e];exists ⟨s'.trans sr,?_⟩;rw[uw,ey',if_pos e];unfold ck;rw[bH];rfl
  ·rintro ys H1 hy ⟨s1,rfl⟩ l hl;have sn:aF H1 (upd H1 l (.lst (ck (A6 xs zs.length)))):=aF.new hl;have gn:(upd H1 l (.lst (ck (A6 xs zs.length)))) l=some (.lst (ck (A6 xs zs.length))):=aH;generalize upd H1 l (.lst (ck (A6 xs zs.length)))=H2 at sn gn ⊢
   have mj:j∈A6 xs zs.length:=by
    unfold A6;exact jb.mpr ⟨pB.mpr (by lia),by simpa using hne⟩
   exists ⟨l,nP (A6 xs zs.length),rfl,bD.of (by rw[<- xY];exact gn),?_,λM hM hle=>?_⟩
   ·unfold nP;rw[ag];exact List.length_pos_of_mem mj
   ·obtain ⟨c,hc,rfl⟩:=ay.mp hM;have h1:=hle j (ay.mpr ⟨j,mj,rfl⟩);have h2:=(jb.mp hc).2
    have e:c=j:=by
     rcases eP c j with z | z | z
     ·exact absurd (hz c z) (of_decide_eq_true h2)
     ·exact z
     ·lia
    rw[e];exact k _ (s1.trans sn)
theorem BK:aU ["rows"] ["rows"] (aJ rX):=by walk_at "d"
theorem vB (T:Txt K mg Z):cz P w K mg base fb 2 Z.yH Z.yp ["rows"] (AL K):=by
 refine T.l7.F.ok BK (λvs H Q E h=>?_) (λcdv A outer s H vs Q E hr h=>?_)
 ·obtain ⟨p,n,H0,R,ps,rfl,_⟩:=h;rfl
 ·obtain ⟨p,n,H0,R,ps,rfl,G,r100,n100,⟨rows,RR⟩,k⟩:=h;refine ⟨_,(az (aR (bJ ["row"] [] [] (bV (pv 0)) (λ_=>(aK (i:=0) (show ND9 ["row"] by decide +kernel))) (λ_=>bT) (λ_=>(cE (sG T) hr T.hJ (ae (pv 0) ai)))))),?_⟩;refine aN (σ:=[some (.ref p)]) rfl ?_;obtain ⟨lR,wR,rr⟩:=id RR;obtain ⟨xs,gx,qx,_⟩:=id G;have lx:=qx.length;exists ⟨⟨_,bD.of gx⟩,?_⟩;refine cW (K:=K) (xs:=xs) (λi ys H'=>aF H H'/\ys=ck (ps.take i)) (aL (bc (by lia))) ⟨aF.refl _,rfl⟩ (λi ys H' _ ⟨s,_⟩=>bD.of (s _ _ gx)) ?_ ?_
  ·rintro i v ys H' hx hlen ⟨s',rfl⟩;obtain ⟨row,er,q,rfl,_,Rr⟩:=cw qx hx;have wr:=wR row (av er);have hi:i < ps.length:=by have:=(aA.mp er).1;lia
   have ef:∀c,b7 R i c=row.getD c 0:=λc=>by unfold b7;rw[aa (l:=R),er];rfl
   have ep:ps[i]?=some (ps.getD i 0):=by rw[aa,af hi];rfl
   have lowp:=rr.low i hi;have u:=rr.unit i hi i hi;rw[if_pos rfl,ef] at u;exists ⟨q,row,ps.getD i 0,rfl,Rr.same s',by lia,by lia,by rw[u];decide,λc hc=>by rw[<- ef];exact rr.lead i hi c hc,λH2 s2=>?_⟩;refine ⟨s'.trans s2,?_⟩;unfold ck;rw[take_snoc ep,bH];rfl
  ·rintro ys H1 hy ⟨s1,rfl⟩ r hr;refine k r _ (s1.none hr) (s1.trans (aF.new hr)) ?_;rw[aH,aG (by lia)]
theorem mZ:aU ["rows","wide","leads"] ["rows","wide"] (aJ kd):=by walk_at "d"
theorem vC (T:Txt K mg Z):cz P w K mg base fb 3 Z.o6 Z.oS ["rows","wide"] (uU K):=by
 refine T.jz.F.ok mZ (λvs H Q E h=>?_) (λcdv A outer s H vs Q E hr h=>?_)
 ·obtain ⟨p,n,H0,R,ps,rfl,_⟩:=h;rfl
 ·obtain ⟨p,n,H0,R,ps,rfl,G,r100,n100,RR,k⟩:=h
  refine ⟨_,(au (aX (i:=2) mZ.nd rfl (Or.inr rfl) (cE (vB T) hr T.l7 (ae (pv 0) ai)))
   (az (aR (bJ ["place"] ["leads"] [2] (b6 rfl T.range (ae (pv 1) ai)) (λ_=>(aK (i:=0) (show ND9 ["place","leads"] by decide +kernel))) (λ_=>zz (a8 (oK K (by rfl)) (pv 0) (pv 1) (by with_unfolding_all rfl))) (λ_=>(pv 0)))))),?_⟩
  refine aN (σ:=[some (.ref p),some (.int n),none]) rfl ?_;exists ⟨p,n,H0,R,ps,rfl,G,r100,n100,RR,λl H1 nl s1 g1=>?_⟩;exists ⟨by lia,by lia,?_⟩;refine ie (n:=n) (λi ys H'=>aF H1 H'/\ys=ck (gP ps i)) (aL (bc (by lia))) ⟨aF.refl _,rfl⟩ ?_ ?_
  ·rintro i ys H' hi hlen ⟨s',rfl⟩;rw[j7];exists ⟨l,ck ps,rfl,.inl (bD.of (s' _ _ g1)),rfl,xZ,?_⟩;rw[Bh];by_cases e:i∈ps
   ·rw[decide_eq_true e];exists ⟨s',?_⟩;rw[nR,if_neg (by simpa using e)]
   ·rw[decide_eq_false e,show (if true=true then !false else false)=true from rfl];exists ⟨s',?_⟩;rw[nR,if_pos e];unfold ck;rw[bH];rfl
  ·rintro ys H2 hy ⟨s2,rfl⟩ r hr;exact k r _ (s1.none (s2.none hr)) ((s1.trans s2).trans (aF.new hr)) aH
theorem xk:aU ["rows","wide"] ["rows","wide"] (aJ lh):=by walk_at "d"
theorem xo (T:Txt K mg Z):cz P w K mg base fb 4 Z.rA Z.qT ["rows","wide"] (CO K):=by
 refine T.ku.F.ok xk (λvs H Q E h=>?_) (λcdv A outer s H vs Q E hr h=>?_)
 ·obtain ⟨p,n,H0,R,ps,rfl,_⟩:=h;rfl
 ·obtain ⟨p,n,H0,R,ps,rfl,G,r100,n100,RR,k⟩:=h;refine ⟨_,(az (aR (bJ ["place"] ["wide"] [1] (bV (cE (vC T) hr T.jz (ae (pv 0) (ae (pv 1) ai)))) (λ_=>(aK (i:=0) (show ND9 ["place","wide"] by decide +kernel))) (λ_=>bT) (λ_=>(cE (sY T) hr T.jS (ae (pv 1) (ae (pv 0) ai))))))),?_⟩;refine aN (σ:=[some (.ref p),some (.int n)]) rfl ?_;exists ⟨p,n,H0,R,ps,rfl,G,r100,n100,RR,λfr H2 nf s2 g2=>?_⟩;have fl:=Cn (ps:=ps) (i:=n);exists ⟨⟨_,bD.of g2⟩,?_⟩;refine cW (K:=K) (xs:=ck (gP ps n)) (λi ys H'=>aF H2 H'/\Paired (cA K H H') ((gP ps n).take i |>.map λa=>j8 n ((a:Nat):Int)) ys) (aL (bc (by rw[nL];lia))) ⟨aF.refl _,.nil⟩ (λi ys H' _ ⟨s,_⟩=>bD.of (s _ _ g2)) ?_ ?_
  ·rintro i v ys H' hx hlen ⟨s',pr⟩;obtain ⟨a,ea,rfl⟩:=C0 hx;have s02:=s2.trans s';exists ⟨n,a,rfl,by lia,λr H3 nr s3 R3=>?_⟩;refine ⟨s'.trans s3,?_⟩;rw[take_snoc ea,bH];exact bP (Paired.imp' (λ_ _ z=>cA.same z s3) pr) (.cons ⟨r,rfl,s02.none nr,R3⟩ .nil)
  ·rintro ys H3 hy ⟨s3,pr⟩ r hr;rw[aG (by rw[nL];exact ao _)] at pr;have sn:aF H3 (upd H3 r (.lst ys)):=aF.new hr;have s03:=s2.trans s3;exact k r _ (s03.none hr) (s03.trans sn) ⟨ys,aH,Paired.imp' (λ_ _ z=>cA.same z sn) pr,fz (H0:=H) ⟨H3,hr,pr⟩⟩
theorem kG:aU ["system","reach"] ["system"] (aJ iQ):=by walk_at "d"
theorem kI (T:Txt K mg Z):cz P w K mg base fb 9 Z.mK Z.mH ["system"] (CM K Z.a_System):=by
 refine T.fg.F.ok kG (λvs H Q E h=>?_) (λcdv A outer s H vs Q E hr h=>?_)
 ·obtain ⟨x,a,c,H0,mv,pt,lk,rfl,_⟩:=h;rfl
 ·obtain ⟨x,a,c,H0,mv,pt,lk,rfl,S,D,KF,k⟩:=h
  refine ⟨_,(au (aX (i:=1) kG.nd rfl (Or.inl rfl) (cE (xm T) hr T.kq (ae (pv 0) (ae (eT (pv 0) rfl) ai))))
   (az (aR (cy (ae (bx lN (pv 1) (cE (xo T) hr T.ku (ae (pv 1) (ae (eT (pv 0) rfl) ai)))) (ae (bA a9 (by rfl) T.len aT (ae (pv 1) ai)) ai)))))),?_⟩
  refine aN (σ:=[some (.ref x),none]) rfl ?_;obtain ⟨dx,xa,xb,xc,gx,_⟩:=id S;have d1:=D.n8;exists ⟨x,Z.a_System,dx,_,_,rfl,gx,T.cl_System,T.na_states,kU,?_⟩;exists ⟨x,a,c,mv.length,H0,mv,pt,lk,rfl,by lia,S,D,KF,λr R ps H1 nr s1 G1 RR=>?_⟩;have gx1:=s1 _ _ gx;have lR:=RR.1;have pl:=RR.le;have fl:=Cn (ps:=ps) (i:=mv.length);exists ⟨x,Z.a_System,dx,_,_,rfl,gx1,T.cl_System,T.na_states,kU,?_⟩;exists ⟨r,mv.length,H,R,ps,rfl,G1,by lia,by lia,⟨_,RR⟩,λu H2 nu s2 G2=>?_⟩;obtain ⟨us,gu,qu,_⟩:=G1.same s2;obtain ⟨vs,gv,qv,_⟩:=id G2;have lu:=qu.length;have lv:=qv.length;rw[ag] at lv;have qv':Paired (cA K H H2) _ vs:=Paired.imp' (λ_ _ ⟨q,e,n,r⟩=>⟨q,e,s1.none n,r⟩) qv;exists lI gu gv (aL (bc (by lia))) λl H3 s3 nl gl=>?_
  have s02:=s1.trans s2;have Gl:bg K H H3 l (pI R ps mv.length):=⟨_,gl,Paired.imp' (λ_ _ z=>cA.same z s3) (bP qu qv'),fz ⟨H2,nl,bP qu qv'⟩⟩;exists ⟨_,_,rfl,.inl (bD.of (s3 _ _ gu)),?_⟩;rw[show ((us.length:Nat):Int)=(ps.length:Int) by lia];exists bN λt H4 s4 g4=>?_
  exact k t l R ps H4 RR (s02.none nl) ((s02.trans s3).trans s4) g4 (Gl.same s4)
theorem jL:aU ["_law_thing","_law_part"] ["_law_thing"] (aJ gV):=by walk_at "d"
theorem qI (T:Txt K mg Z):cz P w K mg base fb 2 Z.kR Z.kM ["_law_thing"] (DO K):=by
 refine T.gH.F.ok jL (λvs H Q E h=>?_) (λcdv A outer s H vs Q E hr h=>?_)
 ·obtain ⟨x,n,rfl,_⟩:=h;rfl
 ·obtain ⟨x,n,rfl,⟨p,rfl,hp⟩,hn,k⟩:=h
  refine ⟨_,(au (cG (PW.pt (jN (iV (gi (oq rfl T.isinstance PyProof.Rows.boot_tuple T.tuple (pv 0)))) (gW (a8 qG (bA a9 (by rfl) T.len aT (ae (pv 0) ai)) ak (bp _))))) (az (aR jQ)) bL)
   (au (d6 PassesOwn.never rfl (JK (pv 0)) (aK (i:=1) jL.nd)
    (az (cG (PW.pt (jN (iV (gi (oq rfl T.isinstance PyProof.Rows.boot_int T.int (pv 1)))) (gW (gi (oq rfl T.isinstance PyProof.Rows.boot_bool T.bool (pv 1)))))) (az (aR jQ)) bL)))
   (az (aR (zD (fD vw (ba bW (pv 0) ak) ak (bp _)) (zA (fD (EX (vR hr)) (cE (eo T) hr T.dt (ae (ba bW (pv 0) ak) (ae (ba bW (pv 0) ak) ai))) (pv 0) (bp _)))))))),?_⟩
  refine aN (σ:=[some (.ref p),none]) rfl ?_;obtain ⟨hb,hg,_,hs⟩:=hn;exists .inr ⟨p,_,_,rfl,hp,rfl,?_⟩;exists ⟨_,_,rfl,.inr hp,?_⟩;walk_at "w"
  try refine Fj ?_
  exists ⟨⟨_,hp⟩,?_⟩;refine HL (K:=K) (a:=p) (xs:=[.int n.1,.int n.2]) (λi σ' H'=>H'=H/\∃x,σ'=[some (.ref p),x]) ⟨rfl,none,rfl⟩ (λi σ' H' _ ⟨e,_⟩=>by subst e;exact hp) ?_ ?_
  ·rintro i x σ' H' hx ⟨rfl,y,rfl⟩
   obtain ⟨z,rfl⟩:∃z,x=V.int z:=by
    have hm:x∈[V.int n.1,V.int n.2]:=av hx;simp only[aE,aO,or_false] at hm;rcases hm with e | e
    ·exact ⟨_,e⟩
    ·exact ⟨_,e⟩
   exists .inl ⟨_,_,.int z,rfl,?_⟩;exists .inl ⟨_,_,.int z,rfl,?_⟩;exists ⟨rfl,_,rfl⟩
  ·rintro σ' H' ⟨rfl,x,rfl⟩;walk_at "w";rw[decide_eq_true hb];exists ⟨n.1,n.2,rfl,hb,hs.mono (by decide),λr H' s1 h'=>?_⟩;obtain ⟨e1,e2⟩:=JU hb hg;exists ⟨_,_,Lk,(lo n.1 n.2,hi n.1 n.2),n,by decide,⟨r,rfl,jG.of h'⟩,⟨p,rfl,s1.sqt hp⟩,?_⟩;rw[e1,e2,decide_eq_true rfl];exact k _ s1
theorem uY:aU ["_law_thing","_law_many"] ["_law_thing","_law_many"] (aJ kh):=by walk_at "d"
theorem vF (T:Txt K mg Z):cz P w K mg base fb 3 Z.pe Z.oW ["_law_thing","_law_many"] (rQ K):=by
 refine T.jC.F.ok uY (λvs H Q E h=>?_) (λcdv A outer s H vs Q E hr h=>?_)
 ·obtain ⟨p,ns,rfl,_⟩:=h;rfl
 ·obtain ⟨p,ns,rfl,hp,hl,hn,k⟩:=h
  refine ⟨_,(au (cG (PW.pt (jN (iV (gi (sF rfl T.isinstance PyProof.Rows.boot_list T.list (pv 0)))) (gW (a8 qG (bA a9 (by rfl) T.len aT (ae (pv 0) ai)) (pv 1) (bp _))))) (az (aR jQ)) bL)
   (az (aR (bA (we rfl) (by rfl) T.all PyProof.Rows.boot_all (ae (bJ ["_law_one"] [] [] (bV (pv 0)) (λ_=>(aK (i:=0) (show ND9 ["_law_one"] by decide +kernel))) (λ_=>bT) (λ_=>(cE (qI T) hr T.gH (ae (pv 0) ai)))) ai))))),?_⟩
  refine aN (σ:=[some (.ref p),some (.int ns.length)]) rfl ?_;obtain ⟨xs,gx,qx⟩:=id hp;have lx:=qx.length;exists ⟨_,_,.lst gx,rfl,?_⟩;exists ⟨_,_,rfl,.inl (bD.of gx),?_⟩;walk_at "w";rw[show ((xs.length:Nat):Int)=(ns.length:Nat) by rw[lx],decide_eq_true rfl];exists ⟨⟨_,bD.of gx⟩,?_⟩;refine cW (K:=K) (xs:=xs) (λi ys H'=>aF H H'/\ys=List.replicate i (.bl true)) (aL (bc (by lia))) ⟨aF.refl _,rfl⟩ (λi ys H' _ ⟨s,_⟩=>bD.of (s _ _ gx)) ?_ ?_
  ·rintro i x ys H' hx hlen ⟨s,rfl⟩;obtain ⟨n,en,z⟩:=cw qx hx;exists ⟨x,n,rfl,s.num z,hn n (av en),λH2 s2=>⟨s.trans s2,by rw[yQ]⟩⟩
  ·rintro ys H' hy ⟨s,rfl⟩ l hl';exists ⟨l,List.replicate xs.length true,rfl,bD.of (by rw[aH];simp),?_⟩;have e4:(List.replicate xs.length true).all id=true:=by simp
   rw[e4];exact k _ (s.trans (aF.new hl'))
theorem uj:aU ["_law_thing","_law_many","_law_wide"] ["_law_thing","_law_many","_law_wide"] (aJ jq):=by walk_at "d"
theorem uk (T:Txt K mg Z):cz P w K mg base fb 4 Z.nZ Z.nV ["_law_thing","_law_many","_law_wide"] (uS K):=by
 refine T.iW.F.ok uj (λvs H Q E h=>?_) (λcdv A outer s H vs Q E hr h=>?_)
 ·obtain ⟨p,rows,m,rfl,_⟩:=h;rfl
 ·obtain ⟨p,rows,m,rfl,hp,hl,hm,hn,k⟩:=h
  refine ⟨_,(au (cG (PW.pt (jN (iV (gi (sF rfl T.isinstance PyProof.Rows.boot_list T.list (pv 0)))) (gW (a8 qG (bA a9 (by rfl) T.len aT (ae (pv 0) ai)) (pv 1) (bp _))))) (az (aR jQ)) bL)
   (az (aR (bA (we rfl) (by rfl) T.all PyProof.Rows.boot_all (ae (bJ ["_law_row_here"] ["_law_wide"] [2] (bV (pv 0)) (λ_=>(aK (i:=0) (show ND9 ["_law_row_here","_law_wide"] by decide +kernel))) (λ_=>bT) (λ_=>(cE (vF T) hr T.jC (ae (pv 0) (ae (pv 1) ai))))) ai))))),?_⟩
  refine aN (σ:=[some (.ref p),some (.int rows.length),some (.int m)]) rfl ?_;obtain ⟨xs,gx,qx⟩:=id hp;have lx:=qx.length;exists ⟨_,_,.lst gx,rfl,?_⟩;exists ⟨_,_,rfl,.inl (bD.of gx),?_⟩;walk_at "w";rw[show ((xs.length:Nat):Int)=(rows.length:Nat) by rw[lx],decide_eq_true rfl];exists ⟨⟨_,bD.of gx⟩,?_⟩;refine cW (K:=K) (xs:=xs) (λi ys H'=>aF H H'/\ys=List.replicate i (.bl true)) (aL (bc (by lia))) ⟨aF.refl _,rfl⟩ (λi ys H' _ ⟨s,_⟩=>bD.of (s _ _ gx)) ?_ ?_
  ·rintro i x ys H' hx hlen ⟨s,rfl⟩;obtain ⟨ns,en,q,rfl,z⟩:=cw qx hx;obtain ⟨e1,e2⟩:=hn ns (av en);exists ⟨q,ns,by rw[e1],z.same s,by lia,e2,λH2 s2=>⟨s.trans s2,by rw[yQ]⟩⟩
  ·rintro ys H' hy ⟨s,rfl⟩ l hl';exists ⟨l,List.replicate xs.length true,rfl,bD.of (by rw[aH];simp),?_⟩;have e4:(List.replicate xs.length true).all id=true:=by simp
   rw[e4];exact k _ (s.trans (aF.new hl'))
theorem jo:aU ["_law_other","_law_many","_law_row_here"] ["_law_other","_law_many"] (aJ kj):=by walk_at "d"
theorem vG (T:Txt K mg Z):cz P w K mg base fb 1 Z.pj Z.oY ["_law_other","_law_many"] (AO K Z.a_System):=by
 refine T.jD.F.ok jo (λvs H Q E h=>?_) (λcdv A outer s H vs Q E hr h=>?_)
 ·obtain ⟨x,r,H0,mv,pt,lk,rfl,_⟩:=h;rfl
 ·obtain ⟨x,r,H0,mv,pt,lk,rfl,S,D,rn,hm,hp,k⟩:=h
  refine ⟨_,(au (d6 PassesOwn.never rfl (bV (kH (qo K (by rfl)) (eT (pv 0) rfl) (oj (pv 1)) oo)) (aK (i:=2) jo.nd)
    (az (cG (a8 (pU (vR hr)) (kH (qo K (by rfl)) (pv 2) oo (oj (pv 1))) (bx zE (dJ (ae (cy (ae ak (ae ak ai))) ai)) (pv 1)) (bp _)) (az (aR jQ)) bL)))
   (au (d6 PassesOwn.never rfl (bV (eT (pv 0) rfl)) (aK (i:=2) jo.nd)
    (az (cG (a8 (pU (vR hr)) (kH (qo K (by rfl)) (pv 2) (oj (pv 1)) oo) (bx zE (dJ (ae (cy (ae ak (ae ak ai))) ai)) (bx gY (bA a9 (by rfl) T.len aT (ae (pv 2) ai)) (pv 1))) (bp _)) (az (aR jQ)) bL)))
   (az (aR jQ)))),?_⟩
  refine aN (σ:=[some (.ref x),some (.int r),none]) rfl ?_;obtain ⟨dx,xa,xb,xc,gx,n1,n2,n3,Ga,Gb,Gc⟩:=id S;have d1:=D.n8;have d2:=D.i4;obtain ⟨ms,gm,qm,_⟩:=id Ga;have lm:=qm.length;exists ⟨x,Z.a_System,dx,_,_,rfl,gx,T.cl_System,T.na_move,qe,?_⟩;exists vf (bD.of gm) λl1 H1 s1 _ g1=>?_
  rw[wa] at g1;exists ⟨⟨_,bD.of g1⟩,?_⟩;refine iI (K:=K) (a:=l1) (xs:=ms.drop r) (λi σ' H'=>aF H1 H'/\∃y,σ'=[some (.ref x),some (.int r),y]) ⟨aF.refl _,_,rfl⟩ (λi σ' H' _ ⟨s,_⟩=>bD.of (s _ _ g1)) ?_ ?_
  ·rintro i v σ' H' hv ⟨s,y,rfl⟩;obtain ⟨row,er,u,rfl,_,Ru⟩:=cw (il qm r) hv;have mr:=av er;have wr:=D.mw row (mP mr);obtain ⟨us,gu,qu⟩:=Ru.same (s1.trans s);have lu:=qu.length;exists vf (bD.of gu) λl2 H2 s2 _ g2=>?_
   rw[FO (by lia)] at g2;exists bN λt H3 s3 g3=>?_
   exists dd λL H4 s4 n4 g4=>?_
   exists zw (k:=r) g4 (by lia) λz H5 s5 n5 g5=>?_
   have s35:=s4.trans s5;have s25:=s3.trans s35
   have R1:dg K H5 l2 (List.replicate r 0):=by
    rw[<- hm row mr];exact ⟨_,s25 _ _ g2,Paired.imp' (λ_ _ z=>bX.same z (s2.trans s25)) (nH qu r)⟩
   have R2:dg K H5 z (List.replicate r 0):=⟨_,g5,js (bX.mk (q:=0) (s35 _ _ g3) rfl) r⟩;exists ⟨_,_,C6,_,_,by decide,R1.kind,R2.kind,?_⟩;rw[decide_eq_true rfl];exists ⟨(s.trans s2).trans s25,_,rfl⟩
  rintro σ' H2 ⟨s2,y,rfl⟩;have s02:=s1.trans s2;have gx2:=s02 _ _ gx;obtain ⟨bs,gb,qb,_⟩:=Gb.same s02;have lb:=qb.length;exists ⟨x,Z.a_System,dx,_,_,rfl,gx2,T.cl_System,T.na_put,y4,?_⟩;exists ⟨⟨_,bD.of gb⟩,?_⟩;refine iI (K:=K) (a:=xb) (xs:=bs) (λi σ' H'=>aF H2 H'/\∃y,σ'=[some (.ref x),some (.int r),y]) ⟨aF.refl _,_,rfl⟩ (λi σ' H' _ ⟨s,_⟩=>bD.of (s _ _ gb)) ?_ ?_
  ·rintro i v σ' H' hv ⟨s,y,rfl⟩;obtain ⟨row,er,u,rfl,_,Ru⟩:=cw qb hv;have mr:=av er;have wr:=D.pw row mr;obtain ⟨us,gu,qu⟩:=Ru.same s;have lu:=qu.length;exists vf (bD.of gu) λl2 H3' s2' _ g2=>?_
   rw[wa] at g2;exists bN λt H3 s3 g3=>?_
   exists dd λL H4 s4 n4 g4=>?_
   have s24:=s3.trans s4;exists ⟨_,_,rfl,.inl (bD.of (s24 _ _ (s2' _ _ gu))),?_⟩;walk_at "w";rw[show ((us.length:Nat):Int) - (r:Int)=((mv.length - r:Nat):Int) by lia];refine zw (k:=mv.length - r) g4 (by lia) λz H5 s5 n5 g5=>?_
   have s35:=s4.trans s5;have s25:=s3.trans s35
   have R1:dg K H5 l2 (List.replicate (mv.length - r) 0):=by
    rw[<- hp row mr];exact ⟨_,s25 _ _ g2,Paired.imp' (λ_ _ z=>bX.same z (s2'.trans s25)) (il qu r)⟩
   have R2:dg K H5 z (List.replicate (mv.length - r) 0):=⟨_,g5,js (bX.mk (q:=0) (s35 _ _ g3) rfl) _⟩;exists ⟨_,_,C6,_,_,by decide,R1.kind,R2.kind,?_⟩;rw[decide_eq_true rfl];exists ⟨(s.trans s2').trans s25,_,rfl⟩
  ·rintro σ' H' ⟨s,y,rfl⟩;exists k H' (s02.trans s)
theorem uX:aU ["grid","wide"] ["grid","wide"] (aJ kb):=by walk_at "d"
theorem nK (T:Txt K mg Z):cz P w K mg base fb 1 Z.o5 Z.oR ["grid","wide"] (AE K):=by
 refine T.gE.F.ok uX (λvs H Q E h=>?_) (λcdv A outer s H vs Q E hr h=>?_)
 ·obtain ⟨p,w,H0,rows,rfl,_⟩:=h;rfl
 ·obtain ⟨p,w,H0,rows,rfl,hp,hz,hw,hl,kk⟩:=h;refine ⟨_,(az (aR (bJ ["place"] ["grid"] [0] (b6 rfl T.range (ae (pv 1) ai)) (λ_=>(aK (i:=0) (show ND9 ["place","grid"] by decide +kernel) rfl (Or.inr rfl) (Or.inl rfl))) (λ_=>bT) (λ_=>(bJ ["line"] ["place"] [0] (vn K (pv 1)) (λ_=>(aK (i:=0) (show ND9 ["line","place"] by decide +kernel))) (λ_=>bT) (λ_=>(ba (eZ K (by rfl)) (pv 0) (pv 1)))))))),?_⟩;refine aN (σ:=[some (.ref p),some (.int w)]) rfl ?_;exists ⟨by lia,by lia,?_⟩;refine eI (n:=w) (cA K H) (λj=>rows.map λxs=>xs.getD j 0) hw (λa b=>a.same b) ?_ ?_
  ·rintro j H1 NY NN hj s1 k1;obtain ⟨xs,gx,qx,_⟩:=hp.same s1;exists ⟨⟨_,bD.of gx⟩,?_⟩;refine cO (K:=K) (F:=cA K H0) (bX K) (λxs=>xs.getD j 0) gx qx hz (λa b=>a.same b) (λa b=>a.same b) ?_ ?_
   ·rintro i ns x H2 NY2 NN2 en s2 ⟨u,rfl,_,zs,gz,qz⟩ k2;obtain ⟨v,ev,hv⟩:=Cg qz (j:=j) (by rw[hl ns (av en)];exact hj);exists cg (bD.of gz) ev ?_;exact k2 _ _ (aF.refl _) hv
   ·rintro ys' H2 r hr s2 g pr nx;exact k1 _ _ s2 ⟨r,rfl,s1.none hr,ys',g,pr⟩
  ·rintro ys' H1 r hr s1 g pr nx;exact kk r H1 hr s1 ⟨ys',g,pr,fz nx⟩
theorem zd:aU ["many"] ["many"] (aJ m5):=by walk_at "d"
theorem zH (T:Txt K mg Z):cz P w K mg base fb 2 Z.tR Z.tu ["many"] (DK K):=by
 refine T.lZ.F.ok zd (λvs H Q E h=>?_) (λcdv A outer s H vs Q E hr h=>?_)
 ·obtain ⟨m,rfl,_⟩:=h;rfl
 ·obtain ⟨m,rfl,hm,k⟩:=h;refine ⟨_,(az (aR (bJ ["at"] ["many"] [0] (b6 rfl T.range (ae (pv 0) ai)) (λ_=>(aK (i:=0) (show ND9 ["at","many"] by decide +kernel))) (λ_=>bT) (λ_=>(cE (sY T) hr T.jS (ae (pv 1) (ae (pv 0) ai))))))),?_⟩;refine aN (σ:=[some (.int m)]) rfl ?_;exists ⟨by lia,by lia,?_⟩;refine eI (n:=m) (cA K H) (λi=>j8 m i) hm (λa b=>a.same b) ?_ ?_
  ·rintro i H' NY NN hi s k1;exists ⟨m,i,rfl,hm,λr H2 n2 s2 h2=>k1 _ _ s2 ⟨r,rfl,s.none n2,h2⟩⟩
  ·rintro ys H' l hl s g pr nx;exact k l _ hl s ⟨ys,g,pr,fz nx⟩
theorem pJ:aU ["grid","many","joined"] ["grid"] (aJ rY):=by walk_at "d"
theorem BX (T:Txt K mg Z):cz P w K mg base fb 6 Z.yI Z.yq ["grid"] (sV K):=by
 refine T.pY.F.ok pJ (λvs H Q E h=>?_) (λcdv A outer s H vs Q E hr h=>?_)
 ·obtain ⟨p,n,w,H0,A,rfl,_⟩:=h;rfl
 ·obtain ⟨p,n,w,H0,A,rfl,G,SA,n40,F,k1,k2⟩:=h
  refine ⟨_,(au (aX (i:=1) pJ.nd rfl (Or.inr rfl) (bA a9 (by rfl) T.len aT (ae (pv 0) ai)))
   (au (aX (i:=2) pJ.nd rfl (Or.inl rfl) (cE (vz T) hr T.l5 (ae (bJ ["row","unit"] [] [] (zx rfl T.zip (ae (pv 0) (ae (cE (zH T) hr T.lZ (ae (pv 1) ai)) ai))) (λ_=>(qE K 2 (c4 (aK (i:=0) (show ND9 ["row","unit"] by decide +kernel)) (c4 (aK (i:=1) (show ND9 ["row","unit"] by decide +kernel)) jP)))) (λ_=>bT) (λ_=>(bx lN (pv 0) (pv 1)))) (ae (bx cK ak (pv 1)) ai))))
   (au (cG (a8 (pU (vR hr)) (cE (vB T) hr T.l7 (ae (pv 2) ai)) (zC rfl T.list rfl T.range (ae (pv 1) ai)) (bp _)) (az (aR zB)) bL)
   (az (aR (bJ ["row"] ["many"] [1] (bV (pv 2)) (λ_=>(aK (i:=0) (show ND9 ["row","many"] by decide +kernel))) (λ_=>bT) (λ_=>(kH (qo K (by rfl)) (pv 0) (oj (pv 1)) oo)))))))),?_⟩
  refine aN (σ:=[some (.ref p),none,none]) rfl ?_;obtain ⟨lA,wA⟩:=id SA;obtain ⟨xs,gx,qx,_⟩:=id G;have lx:=qx.length;obtain ⟨lU,wU⟩:=uG (n:=n);have lj:(oC A (cT n)).length=n:=by rw[sL (by lia),lA]
  exists ⟨_,_,rfl,.inl (bD.of gx),?_⟩;rw[show ((xs.length:Nat):Int)=((n:Nat):Int) by lia];exists ⟨n,rfl,by lia,λu H1 nu s1 U1=>?_⟩;obtain ⟨us,gu,qu,_⟩:=id U1;have lu:=qu.length;exists ⟨⟨_,bD.of (s1 _ _ gx)⟩,⟨_,bD.of gu⟩,?_⟩;refine wb (K:=K) (xs:=xs) (ws:=us) (λi ys H'=>aF H1 H'/\Paired (cA K H H') ((oC A (cT n)).take i) ys) (aL (bc (by lia))) (by lia) ⟨aF.refl _,.nil⟩ (λi ys H' _ ⟨s,_⟩=>⟨bD.of (s _ _ (s1 _ _ gx)),bD.of (s _ _ gu)⟩) ?_ ?_
  ·rintro i v1 v2 ys H' r h1 h2 hy ⟨s,pr⟩ hr;obtain ⟨row,er,a1,rfl,_,Ra⟩:=cw qx h1;obtain ⟨un,eu,a2,rfl,_,Ru⟩:=cw qu h2;have wr:=wA row (av er);have wn:=wU un (av eu);have sr:aF H' (upd H' r (.tup [.ref a1,.ref a2])):=aF.new hr;have gr:(upd H' r (.tup [.ref a1,.ref a2])) r=some (.tup [.ref a1,.ref a2]):=aH;generalize upd H' r (.tup [.ref a1,.ref a2])=H2 at sr gr ⊢;have s2:=s.trans sr;obtain ⟨zs,gz,qz⟩:=Ra.same (s1.trans s2);obtain ⟨ys',gy,qy⟩:=Ru.same s2;have lz:=qz.length;have ly:=qy.length;exists lI gz gy (aL (bc (by lia))) λl2 H4 s4 n4 g4=>?_
   refine ⟨s2.trans s4,?_⟩;rw[take_snoc (Fi er eu)];exact bP (Paired.imp' (λ_ _ z=>cA.same z (sr.trans s4)) pr) (.cons ⟨l2,rfl,(s1.trans s2).none n4,_,g4,Paired.imp' (λ_ _ z=>bX.same z s4) (bP qz qy)⟩ .nil)
  rintro ys H2 hy ⟨s2,pr⟩ l hl;have sn:aF H2 (upd H2 l (.lst ys)):=aF.new hl;have gn:(upd H2 l (.lst ys)) l=some (.lst ys):=aH;rw[aG (by lia)] at pr;generalize upd H2 l (.lst ys)=H3 at sn gn ⊢;have GJ:bg K H H3 l (oC A (cT n)):=sO pr sn hl gn;have s03:=s1.trans (s2.trans sn);walk_at "w";rw[show (2*(n:Int))=((n+n:Nat):Int) by lia];refine ⟨l,n+n,w,H,_,rfl,GJ,by lia,by lia,zZ wA wU,F,λjd R ps M H4 nj s4 G4 RR pm M0 M1 tM=>?_⟩;rw[lj,show min n (n+n)=n by lia] at M1 tM;rw[lj] at pm;have s04:=s03.trans s4;have lR:=RR.1;have wR:=RR.2.1;exists ⟨jd,n+n,H3,R,ps,rfl,G4,by lia,by lia,⟨_,RR⟩,λle H5 nle s5 g5=>?_⟩;walk_at "w";unfold uJ;exists ⟨by lia,λrl H6 s6 n6 g6=>?_⟩;have s06:=(s04.trans s5).trans s6;exists ⟨_,_,Fh Cf,nP ps,nP (List.range n),by decide,ow (s6 _ _ g5),ow g6,?_⟩;by_cases e:ps=List.range n
  ·subst e;rw[decide_eq_true rfl];obtain ⟨vs,gv,qv,_⟩:=G4.same (s5.trans s6);have lv:=qv.length;rw[bC] at lR;exists ⟨⟨_,bD.of gv⟩,?_⟩;refine cW (K:=K) (xs:=vs) (λi ys H'=>aF H6 H'/\Paired (cA K H H') ((R.map λxs=>xs.drop n).take i) ys) (aL (bc (by lia))) ⟨aF.refl _,.nil⟩ (λi ys H' _ ⟨s,_⟩=>bD.of (s _ _ gv)) ?_ ?_
   ·rintro i v ys H' hx hlen ⟨s',pr⟩;obtain ⟨row,er,q,rfl,_,Rr⟩:=cw qv hx;have wr:=wR row (av er);obtain ⟨zs,gz,qz⟩:=Rr.same s';have lz:=qz.length;exists vf (bD.of gz) λl3 H8 s8 n8 g8=>?_
    rw[wa] at g8;refine ⟨s'.trans s8,?_⟩;rw[take_snoc (show (R.map λxs=>xs.drop n)[i]?=some (row.drop n) by rw[aD,er];rfl)];exact bP (Paired.imp' (λ_ _ z=>cA.same z s8) pr) (.cons ⟨l3,rfl,s06.none (s'.none n8),_,g8,Paired.imp' (λ_ _ z=>bX.same z s8) (il qz n)⟩ .nil)
   rintro ys3 H7 hy3 ⟨s7,pr3⟩ l3 hl3;have sn3:aF H7 (upd H7 l3 (.lst ys3)):=aF.new hl3;rw[aG (by rw[ag];lia)] at pr3;have s07:=s06.trans s7;refine k1 l3 R M _ RR (s07.none hl3) (s07.trans sn3) (sO pr3 sn3 hl3 aH) M0 M1 λxs hx x hx'=>?_
   obtain ⟨y,hy,rfl⟩:=ay.mp hx;exact tM y hy x (mP hx')
  ·rw[decide_eq_false (λz=>e (Bg z))];exists k2 R ps H6 RR pm e s06
theorem oH:aU ["one","other","wide","columns"] ["one","other","wide"] (aJ k9):=by walk_at "d"
theorem oN (T:Txt K mg Z):cz P w K mg base fb 6 Z.rz Z.qS ["one","other","wide"] (uT K):=by
 refine T.ip.F.ok oH (λvs H Q E h=>?_) (λcdv A outer s H vs Q E hr h=>?_)
 ·obtain ⟨p,q,w,H0,H1,one,other,rfl,_⟩:=h;rfl
 ·obtain ⟨p,q,w,H0,H1,one,other,rfl,hp,hq,z1,z2,hw,h1,h2,kk⟩:=h
  refine ⟨_,(au (aX (i:=3) oH.nd rfl (Or.inr rfl) (cE (nK T) hr T.gE (ae (pv 1) (ae (pv 2) ai))))
   (az (aR (bJ ["line"] ["columns"] [3] (bV (pv 0)) (λ_=>(aK (i:=0) (show ND9 ["line","columns"] by decide +kernel))) (λ_=>bT) (λ_=>(cE (lS T) hr T.hZ (ae (pv 1) (ae (pv 0) ai)))))))),?_⟩
  refine aN (σ:=[some (.ref p),some (.ref q),some (.int w),none]) rfl ?_;exists ⟨q,w,H1,other,rfl,hq,z2,hw,h2,λc H2 nc s2 hc=>?_⟩;obtain ⟨xs,gx,qx,_⟩:=hp.same s2;exists ⟨⟨_,bD.of gx⟩,?_⟩;refine cO (K:=K) (F:=cA K H0) (cA K H) (λxs=>(d5 other w).map λys=>eh ys xs) gx qx z1 (λa b=>a.same b) (λa b=>a.same b) ?_ ?_
  ·rintro i ns x H3 NY NN en s3 ⟨u,rfl,_,hu⟩ k;obtain ⟨e1,e2⟩:=h1 ns (av en);exists ⟨c,u,H,d5 other w,ns,rfl,hc.same s3,hu,by simp [d5];lia,by lia,λys hy=>⟨?_,e2 ys hy⟩,λr H4 nr s4 hr=>k _ _ s4 ⟨r,rfl,s2.none (s3.none nr),hr⟩⟩;obtain ⟨j,_,rfl⟩:=ay.mp hy;rw[ag];exact e1.symm
  ·rintro ys' H3 r hr s3 g pr nx;exact kk r H3 (s2.none hr) (s2.trans s3) ⟨ys',g,pr,fz nx⟩
theorem fM:aU ["system","rows","wide","to_state","to_numbers","move","put"] ["system","rows"] (aJ pN):=by walk_at "d"
theorem A3 (T:Txt K mg Z):cz P w K mg base fb 7 Z.wD Z.vY ["system","rows"] (AM K Z.a_System):=by
 refine T.nM.F.ok fM (λvs H Q E h=>?_) (λcdv A outer s H vs Q E hr h=>?_)
 ·obtain ⟨x,r,w,H0,H1,mv,pt,lk,rows,inv,rfl,_⟩:=h;rfl
 ·obtain ⟨x,r,w,H0,H1,mv,pt,lk,rows,inv,rfl,S,D,G,hR,sw,iv,hi,F,kQ⟩:=h
  refine ⟨_,(au (aX (i:=2) fM.nd rfl (Or.inl rfl) (eT (pv 0) rfl))
   (au (aX (i:=3) fM.nd rfl (Or.inl rfl) (cE (nK T) hr T.gE (ae (pv 1) (ae (pv 2) ai))))
   (au (aX (i:=4) fM.nd rfl (Or.inr rfl) (cE (BX T) hr T.pY (ae (pv 3) ai)))
   (au (cG (a8 JO (pv 4) zB (bp _)) (az CT) bL)
   (au (aX (i:=5) fM.nd rfl (Or.inl rfl) (cE (oN T) hr T.ip (ae (cE (oN T) hr T.ip (ae (pv 4) (ae (eT (pv 0) rfl) (ae (pv 2) ai)))) (ae (pv 3) (ae (pv 2) ai)))))
   (au (ik 6 ["row"] ["to_numbers"] [4] fM.nd rfl rfl (bV (eT (pv 0) rfl)) (λ_=>(aK (i:=0) (show ND9 ["row","to_numbers"] by decide +kernel))) (λ_=>bT) (λ_=>(cE (lS T) hr T.hZ (ae (pv 1) (ae (pv 0) ai)))))
   (az (aR (CW T.mk_System (jx T) (hr.mono (by decide)) rfl T.mg_System T.gJ .nil EW (ae (pv 5) (ae (pv 6) (ae (bJ ["row"] ["rows"] [1] (bV (eT (pv 0) rfl)) (λ_=>(aK (i:=0) (show ND9 ["row","rows"] by decide +kernel))) (λ_=>bT) (λ_=>(cE (lS T) hr T.hZ (ae (pv 1) (ae (pv 0) ai))))) ai)))))))))))),?_⟩
  refine aN (σ:=[some (.ref x),some (.ref r),none,none,none,none,none]) rfl ?_;obtain ⟨dx,xa,xb,xc,gx,n1,n2,n3,Ga,Gb,Gc⟩:=id S;have d1:=D.n8;have d2:=D.i4;have d3:=D.o4;have lr:=hR.1;exists ⟨x,Z.a_System,dx,_,_,rfl,gx,T.cl_System,T.na_states,kU,?_⟩;exists ⟨r,mv.length,H1,rows,rfl,G,by lia,by lia,hR.2,λt H2 n2' s2 Gt=>?_⟩;exists ⟨t,mv.length,w,H,d5 rows mv.length,rfl,Gt,p9 hR,by lia,sw,λi R M H3 RR ni s3 Gi M0 M1' tp=>?_,λR ps H3 RR _ ne s3=>absurd (iv R ps RR).1 ne⟩;rw[(iv _ _ RR).2] at Gi;have D':=Dd D hi hR;have li:=hi.1;have s13:=s2.trans s3;have gx3:=s13 _ _ gx;have Ga3:=Ga.same s13;exists ⟨rfl,?_⟩;rw[decide_eq_false (λz=>nomatch z)];exists ⟨x,Z.a_System,dx,_,_,rfl,gx3,T.cl_System,T.na_move,qe,?_⟩;exists ⟨i,xa,mv.length,H2,H0,inv,mv,rfl,Gi,Ga3,by lia,by lia,by lia,λxs hx=>⟨hi.2 xs hx,λys hy=>F.f1 xs hx ys hy⟩,D.mw,λm1 H4 n4 s4 G4=>?_⟩;exists ⟨m1,t,mv.length,H3,H,fq inv mv mv.length,d5 rows mv.length,rfl,G4,(Gt.same s3).same s4,by unfold fq;rw[ag];lia,by rw[fL];lia,by lia,λxs hx=>⟨by rw[Ij xs hx,fL],F.f2 xs hx⟩,(p9 hR).2,λm2 H5 n5 s5 G5=>?_⟩;have s35:=s4.trans s5;have s15:=s13.trans s35;have gx5:=s15 _ _ gx;have Gi5:=Gi.same s35;obtain ⟨bs,gb,qb,_⟩:=Gb.same s15;have lb:=qb.length;exists ⟨x,Z.a_System,dx,_,_,rfl,gx5,T.cl_System,T.na_put,y4,?_⟩;exists ⟨⟨_,bD.of gb⟩,?_⟩;refine cO (K:=K) (as:=pt) (F:=cA K H0) (cA K H5) (λxs=>inv.map λr=>eh r xs) gb qb (by lia) (λa b=>a.same b) (λa b=>a.same b) ?_ ?_
  ·rintro j xs y H6 NY NN ex s6 ⟨u,rfl,_,Ru⟩ k1;have mx:=av ex;exists ⟨i,u,H2,inv,xs,rfl,Gi5.same s6,Ru,by lia,by rw[D.pw xs mx];lia,λzs hz=>⟨by rw[hi.2 zs hz,D.pw xs mx],F.f3 xs mx zs hz⟩,λv H7 n7 s7 R7=>?_⟩;exact k1 _ _ s7 ⟨v,rfl,s6.none n7,R7⟩
  rintro ysP H6 pp np s6 gp prp nxp;have Gp:bg K H5 H6 pp (J7 inv pt):=⟨ysP,gp,prp,fz nxp⟩;clear gp prp nxp gb qb lb;have s16:=s15.trans s6;have gx6:=s16 _ _ gx;obtain ⟨cs,gc,qc,_⟩:=Gc.same s16;have lc:=qc.length;exists ⟨x,Z.a_System,dx,_,_,rfl,gx6,T.cl_System,T.na_look,EA,?_⟩;exists ⟨⟨_,bD.of gc⟩,?_⟩;refine cO (K:=K) (as:=lk) (F:=cA K H0) (cA K H6) (λxs=>rows.map λr=>eh r xs) gc qc (by lia) (λa b=>a.same b) (λa b=>a.same b) ?_ ?_
  ·rintro j xs y H7 NY NN ex s7 ⟨u,rfl,_,Ru⟩ k1;have mx:=av ex;exists ⟨r,u,H1,rows,xs,rfl,(G.same s16).same s7,Ru,by lia,by rw[D.lw xs mx];lia,λzs hz=>⟨by rw[hR.2 zs hz,D.lw xs mx],F.f4 xs mx zs hz⟩,λv H8 n8 s8 R8=>?_⟩;exact k1 _ _ s8 ⟨v,rfl,s7.none n8,R8⟩
  rintro ysL H7 ll nl s7 gl prl nxl;have Gl:bg K H6 H7 ll (lk.map λxs=>rows.map λr=>eh r xs):=⟨ysL,gl,prl,fz nxl⟩;clear gl prl nxl gc qc lc;have s17:=s16.trans s7;walk_at "w";intro z' dz nz ndz nez;exact ⟨z',dz,m2,pp,ll,H7,H4,H5,H6,_,_,_,rfl,nz,ndz,nez,rfl,(G5.same s6).same s7,Gp.same s7,Gl,D',F.g1,F.g2,F.g3,λH9 s9 S9=>⟨rfl,kQ z' H9 (s17.trans s9) (S9.weak s17)⟩⟩
theorem j9:aU ["_law_script","_law_bag_here","_law_parts_here","_law_wide","_law_n","_law_system_here","_law_rows","_law_due","_law_found","_law_row_here"] ["_law_script"] (aJ EH):=by walk_at "d"
theorem JP (T:Txt K mg Z):cz P w K mg base fb 10 Z.IS Z.IQ ["_law_script"] (uR K):=by
 refine T.IW.ok j9 (λvs H Q E h=>?_) (λcdv A outer s H vs Q E hr h=>?_)
 ·obtain ⟨a0,ns,rfl,_⟩:=h;rfl
 ·obtain ⟨a0,ns,rfl,hS,hlen,k⟩:=h
  refine ⟨_,(au (aX (i:=1) j9.nd rfl (Or.inl rfl) (cE (A5 T) hr T.nO (ae (pv 0) ai)))
   (au (eL (cE (vD T) hr T.jA (ae (pv 1) ai)) (zy rfl (c4 (aK (i:=2) j9.nd) (c4 (aK (i:=3) j9.nd) jP))))
   (au (aX (i:=4) j9.nd rfl (Or.inr rfl) (bA a9 (by rfl) T.len aT (ae (ba bW (pv 2) ak) ai)))
   (au (aX (i:=5) j9.nd rfl (Or.inl rfl) (cE (zN T) hr T.mh (ae (pv 2) ai)))
   (au (aX (i:=6) j9.nd rfl (Or.inl rfl) (cE (zP T) hr T.mo (ae (cE (xx T) hr T.kB (ae (pv 2) (ae (pv 4) ai))) (ae (pv 4) ai))))
   (au (aX (i:=7) j9.nd rfl (Or.inl rfl) (bx lN (pv 6) (bJ ["_law_at"] ["_law_n"] [4] (bV (cE (zQ T) hr T.my (ae (pv 6) (ae (pv 4) ai)))) (λ_=>(aK (i:=0) (show ND9 ["_law_at","_law_n"] by decide +kernel))) (λ_=>bT) (λ_=>(cE (zJ T) hr T.l9 (ae (pv 1) (ae (pv 0) ai)))))))
   (au (aX (i:=8) j9.nd rfl (Or.inl rfl) (cE (kI T) hr T.fg (ae (pv 5) ai)))
   (au (cG (PW.pt (jN (iV (gi (oq rfl T.isinstance PyProof.Rows.boot_tuple T.tuple (pv 8)))) (jN (a8 qG (bA a9 (by rfl) T.len aT (ae (pv 8) ai)) ak (bp _)) (gW (iV (gi (cE (uk T) hr T.iW (ae (ba bW (pv 8) ak) (ae (pv 4) (ae (pv 4) ai)))))))))) (az (aR jQ)) bL)
   (au (cG (PW.pt (jN (a8 (pU (vR hr)) (pv 8) (cy (ae (pv 7) (ae (bA a9 (by rfl) T.len aT (ae (pv 6) ai)) ai))) (bp _)) (gW (gi (oq rfl T.isinstance PyProof.Rows.boot_bool T.bool (ba bW (pv 8) ak)))))) (az (aR jQ)) bL)
   (au (d6 PassesOwn.never rfl (bV (ba bW (pv 8) ak)) (aK (i:=9) j9.nd)
    (az (iZ (sX cJ dF dE jg (pv 9) (ae (cy (ae ak (ae ak ai))) ai)))))
   (au (cG (a8 (pU (vR hr)) (cE (kI T) hr T.fg (ae (pv 5) ai)) (cy (ae (pv 7) (ae (bA a9 (by rfl) T.len aT (ae (pv 6) ai)) ai))) (bp _)) (az (aR jQ)) bL)
   (az (aR (zD (cE (vG T) hr T.jD (ae (cE (A3 T) hr T.nM (ae (pv 5) (ae (pv 7) ai))) (ae (bA a9 (by rfl) T.len aT (ae (pv 6) ai)) ai))) (zA (fD (EX (vR hr)) (eT (pv 5) rfl) (ba bW (pv 2) ak) (bp _))))))))))))))))),?_⟩
  refine aN (σ:=[some (.ref a0),none,none,none,none,none,none,none,none,none]) rfl ?_;exists ⟨a0,ns,rfl,hS,hlen,λb H0 hb0 B0 s0=>?_⟩;exists ⟨b,rfl,B0,λt1 r w a c mv pt lk H1 g1 P1 D F KF RG w1 w2 B1 u1=>?_⟩;have n8:=D.n8;have i4:=D.i4;have o4:=D.o4;obtain ⟨m0,p0,l0,gr,nm0,np0,nl0,Gm,Gp,Gl⟩:=id P1;obtain ⟨ms,gm,qm,_⟩:=id Gm;have lm:=qm.length;obtain ⟨AD,SK,LK⟩:=J0 RG D;exists ⟨_,_,rfl,.inl (bD.of gm),?_⟩;rw[show ((ms.length:Nat):Int)=(mv.length:Int) by lia];exists ⟨r,H0,mv,pt,lk,rfl,P1,D,F.sf,λx H2 nx s2 S2=>?_⟩;exists ⟨r,mv.length,H0,mv,pt,lk,rfl,by lia,P1.same s2,D,AD,λq H3 nq s3 G3=>?_⟩
  have lK:(kry mv pt mv.length).length<=100:=by
   rw[zW];exact aj (aP n8 i4) (by decide)
  exists ⟨q,mv.length,SK,H2,kry mv pt mv.length,rfl,G3,lK,by lia,fA rfl D.pw _,LK,λl R ps H4 nl s4 G4 RR _=>?_⟩;have lR:=RR.1;have pl:=RR.le;have fl:=Cn (ps:=ps) (i:=mv.length);have s24:=s3.trans s4;exists ⟨l,mv.length,H3,R,ps,rfl,G4,by lia,by lia,⟨_,RR⟩,λfr H5 nf s5 g5=>?_⟩;exists ⟨⟨_,bD.of g5⟩,?_⟩;refine cW (K:=K) (xs:=ck (gP ps mv.length)) (λi ys H'=>aF H5 H'/\Paired (cA K H4 H') ((gP ps mv.length).take i |>.map λa=>j8 mv.length ((a:Nat):Int)) ys) (aL (bc (by rw[nL];lia))) ⟨aF.refl _,.nil⟩ (λi ys H' _ ⟨s,_⟩=>bD.of (s _ _ g5)) ?_ ?_
  ·rintro i v ys H' hx hlen ⟨s',pr⟩;obtain ⟨p,ea,rfl⟩:=C0 hx;have s02:=s5.trans s';exists ⟨mv.length,p,rfl,by lia,λr' H6 nr s6 R6=>?_⟩;refine ⟨s'.trans s6,?_⟩;rw[take_snoc ea,bH];exact bP (Paired.imp' (λ_ _ z=>cA.same z s6) pr) (.cons ⟨r',rfl,s02.none nr,R6⟩ .nil)
  rintro ys H6' hy ⟨s6',pr⟩ ul hul;rw[aG (by rw[nL];exact ao _)] at pr;have lys:=pr.length;rw[ag] at lys;have sn:aF H6' (upd H6' ul (.lst ys)):=aF.new hul;have gul:(upd H6' ul (.lst ys)) ul=some (.lst ys):=aH;replace pr:=Paired.imp' (λ_ _ z=>cA.same z sn) pr;generalize upd H6' ul (.lst ys)=H6 at sn gul pr ⊢;have s46:=s5.trans (s6'.trans sn);obtain ⟨us,gu,qu,_⟩:=G4.same s46;have lu:=qu.length;have pr':Paired (cA K H3 H6) _ ys:=Paired.imp' (λ_ _ ⟨q,e,n,r⟩=>⟨q,e,s4.none n,r⟩) pr;exists lI gu gul (aL (bc (by lia))) λdl H7 s7 ndl gdl=>?_
  have Gd:bg K H3 H7 dl (pI R ps mv.length):=⟨_,gdl,Paired.imp' (λ_ _ z=>cA.same z s7) (bP qu pr'),fz ⟨H6,ndl,bP qu pr'⟩⟩;have s47:=s46.trans s7;have s27:=s24.trans s47;have gl7:=s7 _ _ gu;clear gul gdl pr pr' qu gu;obtain ⟨M1,M2,V9,a1,a2,c9,q9,E,z⟩:=Ja RG D F RR;have hB:=uv RR;have lB:=hB.1
  have okB:∀ns∈(pI R ps mv.length).map (List.map nm),ns.length=mv.length/\∀n∈ns,rJ n:=λns hn=>by
   obtain ⟨qs,hq,rfl⟩:=ay.mp hn;refine ⟨by rw[ag];exact hB.2 qs hq,λn hn=>?_⟩;obtain ⟨y,hy,rfl⟩:=ay.mp hn;have:=z.e3;exact yY (uK (z.tb qs hq y hy) z.q0 (aj z.q1 (ar (by decide) (by lia))) (ar (by decide) (by lia)))
  exists ⟨x,a,c,H1,mv,pt,lk,rfl,S2.same s27,D,KF,λft fp R' ps' H8 RR' nfp s8 gft Gf=>?_⟩;obtain ⟨rfl,rfl⟩:=RR'.same RR;exists .inr ⟨ft,_,_,rfl,jG.of gft,rfl,?_⟩;exists ⟨_,_,rfl,.inr (jG.of gft),?_⟩;walk_at "w"
  try refine Fj ?_
  exists ⟨fp,_,mv.length,by rw[ag,lB],Gf.gridK,by rw[ag,lB];lia,by lia,okB,λH9 s9=>?_⟩;have s79:=s8.trans s9;have gf9:=s9 _ _ gft;exists ⟨_,_,rfl,.inl (bD.of (s79 _ _ gl7)),?_⟩;rw[show ((us.length:Nat):Int)=(ps'.length:Int) by lia];exists bN λt3 HA sA gA=>?_
  have s9A:=s9.trans sA;have gfA:=sA _ _ gf9;exists ⟨_,_,IE zX Cf,(pI R' ps' mv.length,(ps'.length:Int)),(pI R' ps' mv.length,(ps'.length:Int)),by decide,⟨ft,_,_,rfl,jG.of gfA,(Gf.same s9A).kind,rfl⟩,⟨t3,_,_,rfl,jG.of gA,(Gd.same (s8.trans s9A)).kind,rfl⟩,?_⟩;rw[decide_eq_true rfl];exists .inl ⟨_,false,.int _,rfl,?_⟩;walk_at "w";obtain ⟨zs,L0,lz⟩:=LL.of (B:=mv.length) (N:=λq=>H7 q=none) Gf (λxs hx=>by rw[hB.2 xs hx];exact ao _) (λq h _=>h);have Lg:=L0.same s9A;exists ⟨⟨_,bD.of Lg.1⟩,?_⟩;refine iI (K:=K) (a:=fp) (xs:=zs) (λi2 σ' H'=>aF H7 H'/\LL (λq=>H7 q=none) (mv.length+i2) H' fp zs/\∃y2,σ'=[some (.ref a0),some (.ref b),some (.ref r),some (.int w),some (.int mv.length),some (.ref x),some (.ref l),some (.ref dl),some (.ref ft),y2]) ⟨s8.trans s9A,Lg,_,rfl⟩ (λi σ' H' _ ⟨_,L,_⟩=>bD.of L.1) ?_ ?_
  ·rintro i2 v σ' Hi hv ⟨ei,Li,y2,rfl⟩;have hi2:=(aA.mp hv).1;obtain ⟨q,ws,rfl,nq,qt,gq,lq⟩:=Li.2 v (av hv);exists ⟨.inl ⟨rfl,_,bD.of gq⟩,?_⟩;exists bN λt2 Hj sj gj=>?_
   have gqj:=sj _ _ gq;exists jf gqj (bc (by lia)) ?_;exact ⟨(ei.trans sj).after nq,(Li.same sj).upd qt (by lia) (by rw[aw,aS];lia),_,rfl⟩
  rintro σ' Hm ⟨sm,_,y2,rfl⟩;clear Lg L0;have s2m:=s27.trans sm;exists ⟨x,a,c,H1,mv,pt,lk,rfl,S2.same s2m,D,KF,λft2 fp2 R'' ps'' Hn RR'' nfp2 sn2 gft2 Gf2=>?_⟩;obtain ⟨rfl,rfl⟩:=RR''.same RR';have s7n:=sm.trans sn2;exists ⟨_,_,rfl,.inl (bD.of (s7n _ _ gl7)),?_⟩;rw[show ((us.length:Nat):Int)=(ps''.length:Int) by lia];exists bN λt4 Ho so go=>?_
  have s7o:=s7n.trans so;exists ⟨_,_,IE zX Cf,(pI R'' ps'' mv.length,(ps''.length:Int)),(pI R'' ps'' mv.length,(ps''.length:Int)),by decide,⟨ft2,_,_,rfl,jG.of (so _ _ gft2),(Gf2.same so).kind,rfl⟩,⟨t4,_,_,rfl,jG.of go,(Gd.same s7o).kind,rfl⟩,?_⟩;rw[decide_eq_true rfl];exists ⟨x,dl,E,H1,H3,mv,pt,lk,pI R'' ps'' mv.length,stC R'' ps'' mv.length,rfl,S2.same (s27.trans s7o),D,Gd.same s7o,hB,z.sw n8 RR'',λR9 ps9 h9=>Ji RR'' h9,jJ RR'',z.fit n8 RR'',λz9 Hp sp Sp=>?_⟩;have s7p:=s7o.trans sp;have RB:=KP KF n8 D.mw D.pw RR'';exists ⟨_,_,rfl,.inl (bD.of (s7p _ _ gl7)),?_⟩;rw[show ((us.length:Nat):Int)=(ps''.length:Int) by lia];exists ⟨z9,ps''.length,Ho,_,_,_,rfl,Sp,Dd D (jJ RR'') hB,by rw[qL (jJ RR'')];exact pl,Gr D.mw RR'' RB,λxs hx=>by rw[qL (jJ RR'')];exact Gn D.pw RR'' RB xs hx,λHq sq=>?_⟩;have s7q:=s7p.trans sq;have s2q:=s27.trans s7q;obtain ⟨dx,xa,xb,xc,gx,_,_,_,Gxa,_,_⟩:=S2.same s2q;have gr9:=(s2.trans s2q) _ _ gr;exists ⟨x,Z.a_System,dx,_,_,rfl,gx,T.cl_System,T.na_move,qe,?_⟩;exists ⟨_,_,zX,_,_,by decide,Gxa.kind,(Gm.same (s2.trans s2q)).kind,?_⟩;rw[decide_eq_true rfl];exact k _
end
theorem ln1 {P:List Value->Prop} (h:∀x0,P [x0]):∀us:List Value,us.length=1->P us
 | [x0],_=>h x0
theorem ln2 {P:List Value->Prop} (h:∀x0 x1,P [x0,x1]):∀us:List Value,us.length=2->P us
 | [x0,x1],_=>h x0 x1
theorem ln3 {P:List Value->Prop} (h:∀x0 x1 x2,P [x0,x1,x2]):∀us:List Value,us.length=3->P us
 | [x0,x1,x2],_=>h x0 x1 x2
theorem ln4 {P:List Value->Prop} (h:∀x0 x1 x2 x3,P [x0,x1,x2,x3]):∀us:List Value,us.length=4->P us
 | [x0,x1,x2,x3],_=>h x0 x1 x2 x3
theorem ln5 {P:List Value->Prop} (h:∀x0 x1 x2 x3 x4,P [x0,x1,x2,x3,x4]):∀us:List Value,us.length=5->P us
 | [x0,x1,x2,x3,x4],_=>h x0 x1 x2 x3 x4
local macro_rules | `(tactic| walk_at "b") => `(tactic| (intro _ _ _ _ _ _; first | (refine ln1 ?_; intros; rfl) | (refine ln2 ?_; intros; rfl) | (refine ln3 ?_; intros; rfl) | (refine ln4 ?_; intros; rfl) | (refine ln5 ?_; intros; rfl)))
theorem all_mk {l:W.OpenLaw} {K:W.Frag} 
 
  (X:K.In h) (G:h.Ns mainGlobals mg) (hfa:mg "law"=some (.ref fa))
 (aC:W.nsIn K mainGlobals "System"=some (some (.ref C)))
  (h0:Dh K "_law_bag" pS f0 e0)
  (h1:Dh K "_law_take" m9 f1 e1)
  (h2:Dh K "_law_sizes" iY f2 e2)
  (h3:Dh K "_law_line" nB f3 e3)
  (h4:Dh K "_law_low" pQ f4 e4)
  (h5:Dh K "_law_sum" pO f5 e5)
  (h6:Dh K "_law_plus" nk f6 e6)
  (h7:Dh K "_law_prod" nh f7 e7)
  (h8:Dh K "_law_by" sv f8 e8)
  (h9:Dh K "_law_mixed" lF f9 e9)
  (h10:Dh K "_law_two_lines" gU f10 e10)
  (h11:Dh K "_law_number" kg f11 e11)
  (h12:Dh K "_law_row" pP f12 e12)
  (h13:Dh K "_law_move" nv f13 e13)
  (h14:Dh K "_law_parts" lE f14 e14)
  (h15:Dh K "_law_system" kf f15 e15)
  (h16:Dh K "want_list" m4 f16 e16)
  (h17:Dh K "is_whole" pM f17 e17)
  (h18:Dh K "common_divisor" gR f18 e18)
  (h19:Dh K "is_number" m7 f19 e19)
  (h20:Dh K "is_row" va f20 e20)
  (h21:Dh K "copied_rows" ke f21 e21)
  (a22:W.findIn K (.ref C) "__init__"=some (some (.ref f22))) (i22:W.isFn K (.ref f22)=true) (l22:K.lookup f22=some ⟨oc22,od22,.func (W.fnOf "__init__" "System.__init__" (jV df) (iu df) (aJ df) .none kV22 dc22 pm22 an22 cd22 ct22),sl22⟩) (c22:W.codeIn K cd22 "System.__init__"=true) (k22:W.keepIn K (.ref f22)=true)
  (h23:Dh K "_law_copied" ki f23 e23)
  (h24:Dh K "_law_made" nA f24 e24)
  (h25:Dh K "_law_quot" ng f25 e25)
  (h26:Dh K "_law_less" nC f26 e26)
  (h27:Dh K "_law_minus" lG f27 e27)
  (h28:Dh K "_law_lean" nD f28 e28)
  (h29:Dh K "_law_dot" pR f29 e29)
  (h30:Dh K "_law_on" su f30 e30)
  (h31:Dh K "_law_added" lH f31 e31)
  (h32:Dh K "_law_unit" m8 f32 e32)
  (h33:Dh K "_law_free" nE f33 e33)
  (h34:Dh K "tops_over" m6 f34 e34)
  (h35:Dh K "common_multiple" fZ f35 e35)
  (h36:Dh K "common_bottom" iT f36 e36)
  (h37:Dh K "first_with" lC f37 e37)
  (h38:Dh K "cleared" r8 f38 e38)
  (h39:Dh K "brought_up" lD f39 e39)
  (h40:Dh K "swept" zu f40 e40)
  (h41:Dh K "lowest" u0 f41 e41)
  (h42:Dh K "reduced" rW f42 e42)
  (h43:Dh K "row_dot" rV f43 e43)
  (h44:Dh K "grid_on" rZ f44 e44)
  (h45:Dh K "moved_rows" k6 f45 e45)
  (h46:Dh K "reach_grown" ka f46 e46)
  (h47:Dh K "reach_rows" kZ f47 e47)
  (h48:Dh K "unit_row" pL f48 e48)
  (h49:Dh K "leading_place" iS f49 e49)
  (h50:Dh K "leading" rX f50 e50)
  (h51:Dh K "free_places" kd f51 e51)
  (h52:Dh K "free_units" lh f52 e52)
  (h53:Dh K "steered_first" iQ f53 e53)
  (h54:Dh K "_law_is_number" gV f54 e54)
  (h55:Dh K "_law_is_row" kh f55 e55)
  (h56:Dh K "_law_is_grid" jq f56 e56)
  (h57:Dh K "_law_blocks" kj f57 e57)
  (h58:Dh K "grid_turned" kb f58 e58)
  (h59:Dh K "unit_grid" m5 f59 e59)
  (h60:Dh K "inverse" rY f60 e60)
  (h61:Dh K "grid_times" k9 f61 e61)
  (h62:Dh K "in_basis" pN f62 e62)
  (h63:Dh K "law" EH f63 e63)
 (ca0:W.nsIn K mainGlobals "NOUGHT"=some (some (.ref m0))) (cl0:K.lookup m0=some ⟨.type "tuple",mo0,.seq #[.int 0 mt0_0,.int 1 mt0_1] mn0,ms0⟩)
 (ca1:W.nsIn K mainGlobals "ONE"=some (some (.ref m1))) (cl1:K.lookup m1=some ⟨.type "tuple",mo1,.seq #[.int 1 mt1_0,.int 1 mt1_1] mn1,ms1⟩)
 (ci0:W.nsIn K mainGlobals "MOST_STATES"=some (some (.int 8 it0)))
 (ci1:W.nsIn K mainGlobals "MOST_PUTS"=some (some (.int 4 it1)))
 (ci2:W.nsIn K mainGlobals "MOST_LOOKS"=some (some (.int 4 it2)))
  (pg:W.plainGet K C Str.empty=true) (hd:W.hasDictIn K C=true) (po:W.plainOver K C=true) (sa:W.findIn K (.ref C) "__setattr__"=some (some (.builtin "object.__setattr__"))) (mk:W.makesIn K C=true) (kc:W.keepIn K (.ref C)=true)
  (n_move:W.findIn K (.ref C) "move"=some none)
  (n_states:W.findIn K (.ref C) "states"=some none)
  (n_put:W.findIn K (.ref C) "put"=some none)
  (n_ins:W.findIn K (.ref C) "ins"=some none)
  (n_look:W.findIn K (.ref C) "look"=some none)
  (n_outs:W.findIn K (.ref C) "outs"=some none)
  (z_abs:W.nsIn K mainGlobals "abs"=some none)
  (z_len:W.nsIn K mainGlobals "len"=some none)
  (z_min:W.nsIn K mainGlobals "min"=some none)
  (z_int:W.nsIn K mainGlobals "int"=some none)
  (z_range:W.nsIn K mainGlobals "range"=some none)
  (z_isinstance:W.nsIn K mainGlobals "isinstance"=some none)
  (z_list:W.nsIn K mainGlobals "list"=some none)
  (z_bool:W.nsIn K mainGlobals "bool"=some none)
  (z_tuple:W.nsIn K mainGlobals "tuple"=some none)
  (z_all:W.nsIn K mainGlobals "all"=some none)
  (z_enumerate:W.nsIn K mainGlobals "enumerate"=some none)
  (z_zip:W.nsIn K mainGlobals "zip"=some none)
  (z_sum:W.nsIn K mainGlobals "sum"=some none)
  : ∃fd:FuncData,(∀(s:Shared) (v:Value),BindsTo s fd ⟨[v],[]⟩ [("_law_script",v)])/\∀base:Heap,K.In base->base.Ns mainGlobals mg->cz l.prog w K mg base fb 10 fa fd ["_law_script"] (uR K):=by
 have e:=hfa.symm.trans (W.mg_of X G h63.a);cases e;obtain ⟨_,_,_,_,_,_,_,_,_,rfl,_,_⟩:=h63.F.ex;have F22:=Fx (st:=df) l22 c22 k22
 have T:Txt K mg ⟨f0,_,f1,_,f2,_,f3,_,f4,_,f5,_,f6,_,f7,_,f8,_,f9,_,f10,_,f11,_,f12,_,f13,_,f14,_,f15,_,f16,_,f17,_,f18,_,f19,_,f20,_,f21,_,f22,_,f23,_,f24,_,f25,_,f26,_,f27,_,f28,_,f29,_,f30,_,f31,_,f32,_,f33,_,f34,_,f35,_,f36,_,f37,_,f38,_,f39,_,f40,_,f41,_,f42,_,f43,_,f44,_,f45,_,f46,_,f47,_,f48,_,f49,_,f50,_,f51,_,f52,_,f53,_,f54,_,f55,_,f56,_,f57,_,f58,_,f59,_,f60,_,f61,_,f62,_,fa,_,m0,m1,it0,it1,it2,C⟩:={
  nO:=h0.D X G
  aW:=h1.D X G
  ky:=h2.D X G
  gG:=h3.D X G
  dt:=h4.D X G
  fO:=h5.D X G
  md:=h6.D X G
  fh:=h7.D X G
  ia:=h8.D X G
  iq:=h9.D X G
  gF:=h10.D X G
  jB:=h11.D X G
  iH:=h12.D X G
  me:=h13.D X G
  kz:=h14.D X G
  jA:=h15.D X G
  gC:=h16.D X G
  jT:=h17.D X G
  dN:=h18.D X G
  l8:=h19.D X G
  sH:=h20.D X G
  eX:=h21.D X G
  gJ:=F22.binds (ps:=["self","move","put","look"]) λ_ _ _ _ _ _=>by refine ln4 ?_;intros;rfl
  jZ:=F22
  eY:=h23.D X G
  mh:=h24.D X G
  ma:=h25.D X G
  mi:=h26.D X G
  ir:=h27.D X G
  mo:=h28.D X G
  nN:=h29.D X G
  p3:=h30.D X G
  kB:=h31.D X G
  l9:=h32.D X G
  my:=h33.D X G
  gD:=h34.D X G
  fI:=h35.D X G
  ee:=h36.D X G
  kv:=h37.D X G
  pZ:=h38.D X G
  kx:=h39.D X G
  vI:=h40.D X G
  ox:=h41.D X G
  l5:=h42.D X G
  pX:=h43.D X G
  hZ:=h44.D X G
  ks:=h45.D X G
  jy:=h46.D X G
  kq:=h47.D X G
  jS:=h48.D X G
  hJ:=h49.D X G
  l7:=h50.D X G
  jz:=h51.D X G
  ku:=h52.D X G
  fg:=h53.D X G
  gH:=h54.D X G
  jC:=h55.D X G
  iW:=h56.D X G
  jD:=h57.D X G
  gE:=h58.D X G
  lZ:=h59.D X G
  pY:=h60.D X G
  ip:=h61.D X G
  nM:=h62.D X G
  IW:=h63.F
  abs:=W.mg_none_of X G z_abs
  len:=W.mg_none_of X G z_len
  min:=W.mg_none_of X G z_min
  int:=W.mg_none_of X G z_int
  range:=W.mg_none_of X G z_range
  isinstance:=W.mg_none_of X G z_isinstance
  list:=W.mg_none_of X G z_list
  bool:=W.mg_none_of X G z_bool
  tuple:=W.mg_none_of X G z_tuple
  all:=W.mg_none_of X G z_all
  enumerate:=W.mg_none_of X G z_enumerate
  zip:=W.mg_none_of X G z_zip
  sum:=W.mg_none_of X G z_sum
  mg_NOUGHT:=W.mg_of X G ca0
  sq_NOUGHT:=λH=>.inr ⟨_,_,_,cl0,rfl,rfl,fW rfl,.cons ⟨_,rfl⟩ (.cons ⟨_,rfl⟩ (.nil))⟩
  mg_ONE:=W.mg_of X G ca1
  sq_ONE:=λH=>.inr ⟨_,_,_,cl1,rfl,rfl,fW rfl,.cons ⟨_,rfl⟩ (.cons ⟨_,rfl⟩ (.nil))⟩
  mg_MOST_STATES:=W.mg_of X G ci0
  mg_MOST_PUTS:=W.mg_of X G ci1
  mg_MOST_LOOKS:=W.mg_of X G ci2
  mg_System:=W.mg_of X G aC
  cl_System:=⟨pg,hd,po,sa⟩
  na_move:=n_move
  na_states:=n_states
  na_put:=n_put
  na_ins:=n_ins
  na_look:=n_look
  na_outs:=n_outs
  mk_System:=⟨mk,a22,i22,kc⟩ }
 exact ⟨_,λs v=>.of_eq rfl,λbase _ _=>JP T⟩
theorem walk {l:W.OpenLaw} {K:Params->W.Frag} (hn:l.most=some 63) (hdf:d.params.defaults=[])
  (hY:∀(w:World) (h:Heap),YP w h->(K w.params).In h)
  (F:∀(w:World) (mg:Str->Option Value) (fa:Addr) (h:Heap),(K w.params).In h->h.Ns mainGlobals mg->mg d.name=some (.ref fa) →
   ∃fd:FuncData,(∀(s:Shared) (u:Value),BindsTo s fd ⟨[u],[]⟩ [("_law_script",u)])/\∀base:Heap,(K w.params).In base->base.Ns mainGlobals mg->cz l.prog w (K w.params) mg base fb 10 fa fd ["_law_script"] (uR (K w.params))) :
  W.WalkO q loose XP YP l.row.toRowW d [] (λf vs=>PySem.call f vs) :=
 L2.F6 (n:=63) (k:=10) (x:="_law_script") (CX:=λ_=>fb) (sp:=λw=>uR (K w.params)) hn (by decide) hdf ⟨rfl,by decide,by decide⟩ hY F (λ_ _ a ns hl _ hS=>⟨a,ns,rfl,hS,hl,λ_=>rfl⟩) λ_ _ _ _ _ z=>z
end Lw
namespace PySem.W.Fast
def tw9278615390960668691:=()
def tw6773925955985887464:=()
def tw1410938054641290749:=()
def tw10366736156028205934:=()
def tw7450773850910695042:=()
def tw6345196275353522238:=()
def tw5876401999876190809:=()
def tw8282958977587925307:=()
def tw5980830506130498579:=()
def tw9410442109721119813:=()
def tw17092974025121020413:=()
def tw11496100542001845941:=()
def tw17478858339498613684:=()
def tw6909148132218855527:=()
def tw4772404825256135993:=()
def tw12236278995453856409:=()
def tw2467769592602662899:=()
def tw3686562461228407218:=()
def tw3721770956821778800:=()
def tw9436646305279696362:=()
def tw5008046511857725041:=()
def tw16222779835571600854:=()
def tw6411369302113462513:=()
def tw12512887786242981335:=()
def tw2795478715680001706:=()
def tw7476735593418829365:=()
def tw7396963605640486829:=()
def tw118267106650597502:=()
def tw7512379331587993657:=()
def tw15667115663486606386:=()
def tw18386211760818879998:=()
def tw1002085108181001047:=()
def tw9960378132270253434:=()
def tw14850609118888959843:=()
def tw17563401357735753849:=()
def tw3441067526539496965:=()
def tw12040249216429483552:=()
def tw2944289079103067412:=()
def tw6223398851659715911:=()
def tw17397426800756157471:=()
def tw13685559505743083228:=()
def tw6851826865356105462:=()
def tw18212503601818188300:=()
def tw11196943682474819570:=()
def tw12373834616090226944:=()
def tw15383357188815028763:=()
def tw1775412342364449296:=()
def tw12916907814033192223:=()
def tw6903851125735752419:=()
def tw17360341604968611434:=()
def tw6206831863311845504:=()
def tw6407963759886636806:=()
def tw2789363821433523567:=()
def tw8493534986376611580:=()
def tw13744624837780014387:=()
def tw3262401255252686367:=()
def tw1796868202153097173:=()
def tw11865455892801745160:=()
def tw2124244403952563099:=()
def tw4479813345414459215:=()
def tw3197018409519557239:=()
def tw8497582961988679889:=()
def tw9414093685922548340:=()
def tw10482739240768876869:=()
def tw11417305321844457088:=()
def tw3606681137675339817:=()
def tw10978184869742185388:=()
def tw14102069865004500721:=()
def tw5267401661066058520:=()
def tw16835708371126526634:=()
def tw8517656159969044451:=()
def tw2576286689325154609:=()
def tw14702182387293126611:=()
def tw9219305464616989736:=()
def tw12559969302833164642:=()
def tw2923388344250334077:=()
def tw16710275933436189967:=()
def tw3014591126611046255:=()
def tw2208766289915338544:=()
def tw4089252521076945442:=()
def tw15250944589685159108:=()
def tw15116741591417472518:=()
def tw8594505160697207242:=()
def tw14926842107144103091:=()
def tw11251266261226983742:=()
def tw8511051536093435636:=()
def tw614342277991284081:=()
def tw8153846646702758142:=()
def tw11425938665604218088:=()
def tw16676088092099172995:=()
def tw5784854046860257135:=()
def tw6731994993489954989:=()
def tw11843853274493062787:=()
def tw9244162210379600440:=()
def tw11094538536252703647:=()
def tw15526689668022964781:=()
def tw5230129576275904641:=()
def tw14145505132179355990:=()
def tw17339518363103997324:=()
def tw17340199741668156798:=()
def tw2350469366727658741:=()
def tw215811907947774656:=()
def tw11708354630815399055:=()
def tw18281310792190899969:=()
def tw1247339807558568314:=()
def tw6846119716881046654:=()
def tw3126134538861563458:=()
def tw4767246348607275918:=()
def tw15800855176982247790:=()
def tw7776476663545780833:=()
def tw11257657347485702090:=()
def tw13152781834997507593:=()
def tw12774961581043691287:=()
def tw5710011091005423779:=()
def tw14904367452954889598:=()
def tw9478276921256521585:=()
def tw13457248831160171530:=()
def tw556446501526895952:=()
def tw5412411108740525310:=()
def tw6407946455093425387:=()
def tw14679514457411098734:=()
def tw3275499707281252103:=()
def tw3002715170312571773:=()
def tw814964776442550754:=()
def tw3045150397236366425:=()
def tw15580704026402386788:=()
def tw14320495337086842945:=()
def tw14707956369239737244:=()
def tw9710001408833024013:=()
def tw2310147800462663638:=()
def tw15645555200464806969:=()
def tw11032104092016550686:=()
def tw3105133914999527035:=()
def tw11458115227853904677:=()
def tw11618166228794274792:=()
def tw13447995359279432708:=()
def tw18126421396797947280:=()
def tw2138265494727466380:=()
def tw13916877674738378613:=()
def tw4976533546418479032:=()
def tw10741255025640601513:=()
def tw16711096631594677642:=()
def tw988965806710282617:=()
def tw12896945051964411507:=()
def tw15062644511060296615:=()
def tw18195768783200169237:=()
def tw5019466296656701174:=()
def tw1694740697689315901:=()
def tw14071453688557602525:=()
def tw15665333081356249979:=()
def tw1867226912255674331:=()
def tw11601324854052311543:=()
def tw13450938503441605476:=()
def tw17754053832808599257:=()
def tw1130849557191170719:=()
def tw10758448202231034420:=()
def tw2588123958629521614:=()
def tw14158189303032711470:=()
def tw6292924720818654968:=()
def tw8169649954594042405:=()
def tw5146517895545962483:=()
def tw4972203394041839134:=()
def tw14939341959607886501:=()
def tw18065746794180358094:=()
def tw8611005265226323152:=()
def tw5782140848764900413:=()
def tw14449726150468753959:=()
def tw9753184757264896634:=()
def tw8178397266123927995:=()
def tw12034537740925427712:=()
def tw15802464482753434858:=()
def tw8635962481124963708:=()
def tw16100825896696352613:=()
def tw1337854132256503004:=()
def tw8101601835716138646:=()
def tw5612809750025332149:=()
def tw4028052735934544704:=()
def tw9477244047786697299:=()
def tw121244383871861324:=()
def tw12321152807749621500:=()
def tw2862121380917085546:=()
def tw16459888904525044151:=()
def tw15983595423568735079:=()
def tw10928296809953709653:=()
def tw2951972690684618455:=()
def tw9854223641798081698:=()
def tw1036091782430278268:=()
def tw5775226927268999034:=()
def tw12541011987406803037:=()
def tw10172826069720411550:=()
def tw6824322065779811068:=()
def tw14593265451493922014:=()
def tw16272763606475501439:=()
def tw13396741608521516266:=()
def tw15231770113467422246:=()
def tw6421310771761837135:=()
def tw15623840672582574532:=()
def tw12401877480019344243:=()
def tw17388774996438822547:=()
def tw17565028784427892472:=()
def tw11084446382320426113:=()
def tw13198886157392759342:=()
def tw12515095364738466543:=()
def tw7799877952663722039:=()
def tw10049488080669746782:=()
def tw6152486348662740379:=()
def tw12134816846471308160:=()
def tw4712118187692145910:=()
def tw12601583513852242152:=()
def tw14733692787138551249:=()
def tw16060781021628852033:=()
def tw969629854443125975:=()
def tw7111537583873675179:=()
def tw9508354749117745672:=()
def tw14194222694785140872:=()
def tw16299347602316159129:=()
def tw15473220824483921439:=()
def tw15239693998217618931:=()
def tw14295887865555233364:=()
def tw11325398153379998813:=()
def tw11035973845167560958:=()
def tw13037354061954760368:=()
def tw13516023489497129329:=()
def tw1224861110761261213:=()
def tw11405921577532592863:=()
def tw1202161148183294408:=()
def tw1587260916361199722:=()
def tw11047734232735097880:=()
def tw13830378659197636101:=()
def tw16865734026837247139:=()
def tw9522314443174601737:=()
def tw11435508071776997091:=()
def tw14042531634829123821:=()
def tw1874247106333347975:=()
def tw15294053445265748292:=()
def tw3875619531854599723:=()
def tw17460508967703479012:=()
def tw10932003950373931841:=()
def tw8912327595791185488:=()
def tw12743084318409966646:=()
def tw3688353260136141265:=()
def tw15810732563729136569:=()
def tw14616224521825884681:=()
def tw11608869148350159724:=()
def tw7504523933244029748:=()
def tw10434373217695999118:=()
def tw15337904312253923219:=()
def tw13735260198190154781:=()
def tw17150131100403140604:=()
def tw1170991126027490081:=()
def tw16803634218731682112:=()
def tw8112144937763080658:=()
def tw11676197508396127702:=()
def tw7590986623044732703:=()
def tw1639140051454482598:=()
def tw15972984790431676008:=()
def tw18171230321341892370:=()
def tw11436332691915180523:=()
def tw2250021835771283437:=()
def tw18035731689243390688:=()
def tw17794416119392449529:=()
def tw5590890107068963713:=()
def tw17169943806545071755:=()
def tw3861502886602930224:=()
def tw10986166970490071527:=()
def tw10646671946646096095:=()
def tw12613289377821482719:=()
def tw11683782939510457472:=()
def tw13127464661279401871:=()
def tw11923457780241846890:=()
def tw9561321435404236256:=()
def tw6381063019304723069:=()
def tw8849983576280997607:=()
def tw738510028944457931:=()
def tw17006469974463770547:=()
def tw16632219481649231468:=()
def tw6097213812896444788:=()
def tw3501592218908414599:=()
def tw5067005244038917520:=()
def tw16629232168124222083:=()
def tw13423694441581450334:=()
def tw10412670754834596945:=()
def tw9654149536619942997:=()
def tw10730703600704193901:=()
def tw5167419950716609132:=()
def tw7639174980451838477:=()
def tw14335951071994628993:=()
def tw17810301147886550186:=()
def tw16536285209502735737:=()
def tw10306480515948324091:=()
def tw9610512095599121500:=()
def tw11726178628192944582:=()
def tw9882971849392107838:=()
def tw14383891607438075198:=()
def tw10936016670266676401:=()
def tw17772190143217241253:=()
def tw9978274832016638631:=()
def tw2990413996068328806:=()
def tw14052723258541378543:=()
def tw2776657659612653840:=()
def tw9978382122456415015:=()
def tw5129011948051127131:=()
def tw2118724938394942838:=()
def tw14866231738572878727:=()
def tw6581926110488323018:=()
def tw6361125144329851012:=()
def tw6277893506173965147:=()
def tw14380637760189088293:=()
def tw16539883607394565990:=()
def tw14740924948626893214:=()
def tw14814228523827844933:=()
def tw7142469996865243581:=()
def tw7128536843669022413:=()
def tw10175105403417002448:=()
def tw5272511635400197651:=()
def tw17749851119269734531:=()
def tw11927728723255654166:=()
def tw18167735242631945103:=()
def tw6873557932092753507:=()
def tw4826382583982018750:=()
def tw2979436092914937335:=()
def tw16098174357283767615:=()
def tw18258834590921796534:=()
def tw2426933034995014288:=()
def tw6268651051005838310:=()
def tw17860468661155347519:=()
def tw10227583739224294820:=()
def tw7098140787976690886:=()
def tw3491558059272531445:=()
def tw14607800803799295287:=()
def tw922886590646788090:=()
def tw3456991797367723886:=()
def tw448239159867808606:=()
def tw10873519140139318191:=()
def tw10362549749334059411:=()
def tw2256831084723770342:=()
def tw952818308525362891:=()
def tw4674071941774288935:=()
def tw13025230939197698253:=()
def tw15784366002537962511:=()
def tw908415920547695710:=()
def tw9257764484629010179:=()
def tw17990407750517194687:=()
def tw15542353057262019410:=()
def tw4032541744591144790:=()
def tw12780207838529984390:=()
def tw18054961099636877051:=()
def tw4892069643694203971:=()
def tw18070412265723113339:=()
def tw12519585358162845794:=()
def tw17148363266512727109:=()
def tw17205778864888164834:=()
def tw15676683690639011539:=()
def tw4796167489477366225:=()
def tw3164755651868218354:=()
def tw18022527512060877224:=()
def tw11308915974443463991:=()
def tw1594551009249497229:=()
def tw2862118039378031622:=()
def tw17840976246864721450:=()
def tw14825783719717150480:=()
def tw13695997267885896511:=()
def tw17169715554015993554:=()
def tw15342954423630867970:=()
def tw794597041754999640:=()
def tw17850950263493790182:=()
def tw16068543990199924234:=()
def tw16108890930453160595:=()
def tw4720114856850028749:=()
def tw490216450864654683:=()
def tw9348563424021731182:=()
def tw18117889352734837126:=()
def tw10083978976908271617:=()
def tw9063526854687560051:=()
def tw8426730555210317175:=()
def tw14882509192348225027:=()
def tw5790860396175178054:=()
def tw14900122894047381614:=()
def tw13979562289342876035:=()
def tw6418246414732155080:=()
def tw5934313857920419061:=()
def tw16833983096185129479:=()
def tw16809830044057932613:=()
def tw4858496920456676623:=()
def tw11518027021574972717:=()
def tw1348531423490153906:=()
def tw3294773765097339472:=()
def tw14248354449546803659:=()
def tw13874588390455701656:=()
def tw15861736741555665627:=()
def tw4015040544831247246:=()
def tw5952000050632188670:=()
def tw2036136129659810806:=()
def tw18404677662720017782:=()
def tw2938005288997242809:=()
def tw5937395033241103347:=()
def tw12097075173852735468:=()
def tw6302708074976284499:=()
def tw1764019107315047368:=()
def tw10662277809868423321:=()
def tw11688522756897724437:=()
def tw17781175760276717530:=()
def tw609363172096468116:=()
def tw10676531515473481388:=()
def tw10491024656364935231:=()
def tw8766232161599457678:=()
def tw6398348276812341304:=()
def tw306987091810735120:=()
def tw11180040021689827468:=()
def tw3012652963279079760:=()
def tw10213332762813262679:=()
def tw9193982043928392642:=()
def tw15746068075142605461:=()
def tw10061951157841025443:=()
def tw9110942832117969537:=()
def tw409241065480359983:=()
def tw2212289881448443871:=()
def tw3380800297551544184:=()
def tw4560778614458552190:=()
def tw12925585674786885771:=()
def tw3179888871239580355:=()
def tw2185355095911860783:=()
def tw7348278853283213524:=()
def tw6382377974172233080:=()
def tw13727877154573721386:=()
def tw8646989960895590634:=()
def tw14226961001530623518:=()
def tw11209147787001410857:=()
def tw13131063688872636716:=()
def tw18293893686268247305:=()
def tw11723152165005260245:=()
def tw15196740218206243163:=()
def tw754663492430522583:=()
def tw7350182394237034439:=()
def tw9541018106806617303:=()
def tw14728822106809268373:=()
def tw12895491028373387637:=()
def tw9632384803548382826:=()
def tw11195140759043931225:=()
def tw15697622552383046313:=()
def tw16998098505453979315:=()
def tw1974382637494180861:=()
def tw3295091563917977718:=()
def tw4678872392587625888:=()
def tw3863760279377814229:=()
def tw11733807840466920535:=()
def tw10703605245841180193:=()
def tw12928175821732038168:=()
def tw7540433980444603824:=()
def tw4945870953138267008:=()
def tw4285346456163787298:=()
def tw5449141246347899538:=()
def tw1155058025567051047:=()
def tw15906774026091315154:=()
def tw5087233795647203281:=()
def tw13633049326441180459:=()
def tw8149130408842381060:=()
def tw17147010936911183985:=()
def tw5689232576254352939:=()
def tw2807710087487718174:=()
theorem te9278615390960668691:True:=trivial
end PySem.W.Fast
open PySem PySem.W PyProof.Rows
set_option maxRecDepth 100000 in
set_option maxHeartbeats 0 in
theorem PySem.Challenge.cw_helmsum_k72_steered_first_holds : PySem.Challenge.rw_helmsum_k72_steered_first.Holds := by
 w_on;o_law;k_head;(case hw=>w_witness2)
 k_fill
 refine Lw.walk (l:=PySem.Challenge.rw_helmsum_k72_steered_first) rfl rfl (λw h Y=>PySem.W.kIn_of Y) ?F
 case F =>
  intro w mg fa h KX G hmg;refine' Lw.all_mk KX G hmg ?aC ?_ ?_ ?_ ?_ ?_ ?_ ?_ ?_ ?_ ?_ ?_ ?_ ?_ ?_ ?_ ?_ ?_ ?_ ?_ ?_ ?_ ?_ ?a22 ?i22 ?l22 ?c22 ?k22 ?_ ?_ ?_ ?_ ?_ ?_ ?_ ?_ ?_ ?_ ?_ ?_ ?_ ?_ ?_ ?_ ?_ ?_ ?_ ?_ ?_ ?_ ?_ ?_ ?_ ?_ ?_ ?_ ?_ ?_ ?_ ?_ ?_ ?_ ?_ ?_ ?_ ?_ ?_ ?_ ?_ ?ca0 ?cl0 ?ca1 ?cl1 ?ci0 ?ci1 ?ci2 ?pg ?hd ?po ?sa ?mk ?kc ?n_move ?n_states ?n_put ?n_ins ?n_look ?n_outs ?z_abs ?z_len ?z_min ?z_int ?z_range ?z_isinstance ?z_list ?z_bool ?z_tuple ?z_all ?z_enumerate ?z_zip ?z_sum
  all_goals try refine' Lv ?_ ?_ ?_ ?_
  all_goals try k_is