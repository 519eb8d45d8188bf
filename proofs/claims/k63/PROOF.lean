import PyProof.Rows.All
import Wide.All
import OpenK.AllK
import Wide.FinOn
import Lean
import PyProof.EqAt
import PyProof.EqKinds
import PyProof.TupleCall
import PyProof.NeKinds
import PySem.Challenge.RW_helmsum_k63_papers_of_least
set_option Elab.async false
set_option linter.all false
set_option maxRecDepth 100000
abbrev ND9:=@List.Nodup PySem.Str
abbrev aa:=@List.getD_eq_getElem?_getD
abbrev af:=@List.getElem?_eq_getElem
abbrev ag:=@Nat.le_trans
abbrev aj:=@List.length_map
abbrev ao:=@List.mem_of_getElem?
abbrev au:=@Nat.le_refl
abbrev av:=@Nat.pow_le_pow_right
abbrev aw:=@List.length_append
abbrev ax:=@Nat.mul_le_mul
abbrev az:=@List.mem_map
abbrev aB:=@List.getElem?_map
abbrev aD:=@Nat.mul_le_mul_left
abbrev aE:=@List.take_of_length_le
abbrev aF:=@Nat.pow_add
abbrev aG:=@Nat.mul_le_mul_right
abbrev aH:=@List.mem_append
abbrev aK:=@List.getElem?_eq_some_iff
abbrev aL:=@List.mem_cons
abbrev aM:=@List.getElem_mem
abbrev aT:=@Nat.le_of_lt
abbrev aX:=@List.size_toArray
abbrev aY:=@Rat.intCast_mul
abbrev a7:=@PySem.boot_len
abbrev a8:=@Nat.mul_pos
abbrev a9:=@List.not_mem_nil
abbrev bc:=@Rat.intCast_natCast
abbrev bf:=@Bool.false_ne_true
abbrev bg:=@List.getElem?_eq_none
abbrev bo:=@List.length_zipWith
abbrev bp:=@Nat.lt_of_le_of_lt
abbrev bu:=@List.getElem?_zipWith
abbrev bx:=@Nat.lt_of_lt_of_le
abbrev bC:=@Nat.zero_le
abbrev bG:=@List.getElem?_append_right
abbrev bJ:=@List.length_singleton
abbrev bK:=@List.length_replicate
abbrev bN:=@List.getElem_of_mem
abbrev bO:=@List.mem_append_right
abbrev bQ:=@List.length_cons
abbrev bR:=@List.length_range
abbrev bS:=@Int.eq_ofNat_of_zero_le
abbrev bW:=@List.mem_singleton
abbrev bY:=@List.getElem?_append_left
abbrev bZ:=@List.mem_cons_of_mem
abbrev b7:=@List.map_append
abbrev cg:=@Nat.mul_comm
abbrev ck:=@Int.fdiv_eq_ediv_of_nonneg
abbrev cv:=@Option.some.inj
abbrev cx:=@PySem.F.plainAttrs_list
abbrev cy:=@List.mem_or_eq_of_mem_set
abbrev cA:=@Nat.one_le_two_pow
abbrev cC:=@PySem.F.type_list_append
abbrev cD:=@PySem.F.slot_list_append
abbrev cJ:=@List.append_assoc
abbrev cM:=@List.getElem?_range
abbrev cN:=@Nat.lt_or_ge
abbrev cO:=@List.mem_of_mem_take
abbrev cP:=@List.length_take
abbrev cR:=@Nat.mul_assoc
abbrev cV:=@Nat.ne_of_lt
abbrev cX:=@Int.natAbs_natCast
abbrev cZ:=@Nat.succ_mul
abbrev c6:=@List.nil_append
abbrev c7:=@Nat.dvd_mul_left
abbrev df:=@Nat.pow_lt_pow_right
abbrev di:=@Nat.not_lt_zero
abbrev dy:=@Nat.le_mul_of_pos_right
abbrev dB:=@List.mem_cons_self
abbrev dC:=@List.getElem_zipWith
abbrev dI:=@Rat.intCast_inj
abbrev dJ:=@PySem.W.kia_one
abbrev dM:=@List.length_set
abbrev dN:=@Nat.le_mul_of_pos_left
abbrev dX:=@List.nodup_append
abbrev dY:=@List.flatten_cons
abbrev dZ:=@Int.natAbs_mul
abbrev d5:=@Nat.pow_succ
abbrev eo:=@Nat.succ_le_succ
abbrev eB:=@Nat.pow_pos
abbrev eC:=@Bool.and_eq_true
abbrev eO:=@Rat.mul_comm
abbrev eT:=@List.flatten_append
abbrev eY:=@Rat.intCast_neg
abbrev ff:=@List.nodup_cons
abbrev fo:=@List.drop_eq_getElem_cons
abbrev fu:=@List.ext_getElem
abbrev fv:=@List.cons_append
abbrev fz:=@Int.gcd_dvd_left
abbrev fG:=@Nat.lt_irrefl
abbrev fQ:=@Int.gcd_dvd_right
abbrev gW:=@Rat.div_def
abbrev gX:=@Nat.mul_add
abbrev gY:=@List.mem_flatten
abbrev hZ:=@List.mem_replicate
abbrev ik:=@Int.natAbs_dvd_natAbs
abbrev il:=@Bool.beq_eq_decide_eq
abbrev iJ:=@List.mem_append_left
abbrev iL:=@Nat.dvd_trans
abbrev iM:=@List.map_cons
abbrev je:=@List.replicate_succ
abbrev jh:=@Nat.lt_succ_self
abbrev ji:=@List.getElem_map
abbrev jq:=@Int.mul_pos
abbrev js:=@Rat.mul_zero
abbrev jt:=@Nat.sub_self
abbrev ju:=@Int.gcd_comm
abbrev jv:=@Int.emod_lt_of_pos
abbrev jw:=@Bool.false_eq_true
abbrev kb:=@Nat.lt_trichotomy
abbrev kd:=@Nat.dvd_mul_right
abbrev kf:=@List.mem_range
abbrev kF:=@PySem.IsL.update
abbrev kG:=@Nat.min_self
abbrev kH:=@List.mem_reverse
abbrev kI:=@List.lookup_cons
abbrev kJ:=@Int.mul_comm
abbrev kR:=@PySem.F.plain_extend_loop
abbrev kS:=@PySem.mem_of_lookup
abbrev lD:=@Nat.le_of_dvd
abbrev lE:=@List.getElem?_take_of_lt
abbrev lF:=@List.eq_of_mem_replicate
abbrev lH:=@Int.mul_assoc
abbrev lS:=@Rat.natCast_mul
abbrev lU:=@List.append_nil
abbrev lV:=@Int.emod_nonneg
abbrev lW:=@Bool.eq_iff_iff
abbrev lX:=@Rat.div_mul_cancel
abbrev lY:=@Nat.eq_zero_or_pos
abbrev mG:=@List.map_id
abbrev mH:=@Int.dvd_mul_of_dvd_left
abbrev nD:=@Rat.add_zero
abbrev nE:=@List.nodup_nil
abbrev nH:=@List.map_map
abbrev nJ:=@List.ext_getElem?
abbrev oW:=@PySem.F.slot_zip_next
abbrev oX:=@List.all_eq_true
abbrev qQ:=@Nat.one_mul
abbrev qR:=@Rat.mul_eq_zero
abbrev qS:=@Rat.intCast_pos
abbrev qT:=@List.range_succ
abbrev qU:=@List.mem_filter
abbrev qV:=@List.length_zip
abbrev tD:=@Nat.pow_le_pow_left
abbrev tG:=@List.length_reverse
abbrev tT:=@Rat.zero_mul
abbrev tU:=@Nat.add_comm
abbrev uU:=@List.getElem_range
abbrev uV:=@Int.natAbs_neg
abbrev xt:=@Nat.pow_mul
abbrev zD:=@Rat.intCast_eq_zero_iff
abbrev zE:=@Option.getD_some
abbrev zF:=@List.getElem?_replicate
abbrev zG:=@Int.natCast_dvd_natCast
abbrev Ac:=@PySem.W.cellsFrom_some
abbrev Ad:=@Nat.dvd_refl
abbrev Ae:=@Int.zero_add
abbrev Cq:=@Rat.intCast_add
abbrev Ec:=@Rat.one_mul
abbrev Ed:=@Rat.mul_one
abbrev Ee:=@Nat.le_succ
abbrev Ef:=@List.forIn_nil
abbrev FG:=@PySem.W.plainGet_of
abbrev FH:=@List.zipWith_append
abbrev FI:=@List.map_congr_left
abbrev FJ:=@List.length_pos_iff
abbrev FK:=@List.filterMap_cons
abbrev IS:=@PySem.W.callWith_K
abbrev IT:=@List.append_of_mem
abbrev LA:=@Rat.zero_add
abbrev LB:=@Nat.ne_of_gt
abbrev LC:=@Nat.mul_zero
abbrev LD:=@Int.dvd_refl
abbrev MQ:=@Nat.min_le_right
abbrev MR:=@Nat.le_add_right
abbrev MS:=@List.length_drop
abbrev O3:=@Nat.mul_one
abbrev O4:=@Nat.add_mul
abbrev O5:=@Int.dvd_gcd
abbrev Pa:=@Nat.min_eq_left
abbrev Pb:=@List.of_mem_zip
abbrev Pc:=@List.map_const'
abbrev Pd:=@List.forIn_cons
abbrev Pe:=@Int.gcd_pos_of_ne_zero_right
abbrev RQ:=@Rat.mul_nonneg
abbrev RS:=@Nat.add_le_add
abbrev RT:=@Int.eq_of_mul_eq_mul_right
abbrev TZ:=@PySem.F.entry_extend_loop
abbrev T1:=@List.getElem?_zip_eq_some
abbrev T2:=@Int.natAbs_ediv_of_nonneg
abbrev T9:=@Option.isSome_iff_exists
abbrev Vq:=@PySem.F.args_zip_next_1
abbrev Vr:=@Nat.add_sub_cancel_left
abbrev Vs:=@List.filter_cons_of_pos
abbrev Vt:=@List.filter_cons_of_neg
abbrev LR9:=List (List Rat)
abbrev FG9:=PySem.W.Frag
namespace L2
open PySem PySem.Spec PyProof.Rows
abbrev Key:=Sum Int Str
def Rt:Key->Value->Bool
 | .inl k,v=>Value.isInt k v
 | .inr x,v=>Value.isStrOf x v
def VO (w:World):Key->Int
 | .inl k=>hashInt k
 | .inr x=>hashStr w x
theorem fO:∀{k:Key} {v:Value},Rt k v=true->(∃i t,k=Sum.inl i/\v=Value.int i t)\/(∃x t,k=Sum.inr x/\v=Value.str x t)
 | .inl i,v,h=>by
  obtain ⟨t,e⟩:=Value.isInt_shape (k:=i) (v:=v) h;exact .inl ⟨i,t,rfl,e⟩
 | .inr x,v,h=>by
  obtain ⟨t,e⟩:=Value.isStrOf_shape (x:=x) (v:=v) h;exact .inr ⟨x,t,rfl,e⟩
theorem To (a b:Int):decide ((Sum.inl a:Key)=Sum.inl b)=(a == b):=by
 by_cases e:a=b
 ·subst e;simp
 ·have h:¬(Sum.inl a:Key)=Sum.inl b:=λq=>e (Sum.inl.inj q)
  rw[decide_eq_false h];exact (beq_eq_false_iff_ne.mpr e).symm
theorem Th (a b:Str):decide ((Sum.inr a:Key)=Sum.inr b)=decide (a=b):=by
 by_cases e:a=b
 ·subst e;simp
 ·have h:¬(Sum.inr a:Key)=Sum.inr b:=λq=>e (Sum.inr.inj q)
  rw[decide_eq_false h,decide_eq_false e]
theorem Tj (a:Int) (b:Str):decide ((Sum.inl a:Key)=Sum.inr b)=false:=decide_eq_false (λq=>nomatch q)
theorem Ti (a:Str) (b:Int):decide ((Sum.inr a:Key)=Sum.inl b)=false:=decide_eq_false (λq=>nomatch q)
def KQ (prog:Program) (w:World):PySem.KeyKind prog w Key where
 is:=Rt
 hash:=VO w
 inj:=λv a b ha hb=>by
  rcases fO ha with ⟨i,t,rfl,rfl⟩ | ⟨x,t,rfl,rfl⟩
  ·rcases fO hb with ⟨j,u,rfl,e⟩ | ⟨y,u,rfl,e⟩
   ·injection e with e1 _;rw[e1]
   ·exact nomatch e
  ·rcases fO hb with ⟨j,u,rfl,e⟩ | ⟨y,u,rfl,e⟩
   ·exact nomatch e
   ·injection e with e1 _;rw[e1]
 byValue:=λk v h=>by
  rcases fO h with ⟨i,t,rfl,rfl⟩ | ⟨x,t,rfl,rfl⟩ <;> rfl
 pyHash:=λhv h=>by
  rcases fO hv with ⟨i,t,rfl,rfl⟩ | ⟨x,t,rfl,rfl⟩
  ·exact wpAny_pyHash_int h
  ·exact wpAny_pyHash_str h
 eqBool:=λhu hv h=>by
  rcases fO hu with ⟨i,t,rfl,rfl⟩ | ⟨x,t,rfl,rfl⟩
  ·rcases fO hv with ⟨j,u,rfl,rfl⟩ | ⟨y,u,rfl,rfl⟩
   ·rw[To] at h;exact wpAny_eqBool_int h
   ·rw[Tj] at h;exact SeqAt.EqAt.int_str i t y u _ _ _ _ h
  ·rcases fO hv with ⟨j,u,rfl,rfl⟩ | ⟨y,u,rfl,rfl⟩
   ·rw[Ti] at h;exact SeqAt.EqAt.str_int x t j u _ _ _ _ h
   ·rw[Th] at h;exact wpAny_eqBool_str h
 «strs»:=λk x t v h=>by
  rcases fO h with ⟨i,u,rfl,e⟩ | ⟨y,u,rfl,e⟩
  ·exact nomatch e
  ·injection e with e1 _
   subst e1;cases v <;> rfl
inductive V where
  | non | bl (b : Bool) | int (i : Int) | str (x : Str) | byt (b : Array UInt8) | flt (b : UInt64) | ref (a : Addr) | ty (n : String)
  deriving DecidableEq

def RelV:V->Value->Prop
 | .non,u=>u=Value.none
 | .bl b,u=>u=Value.bool b
 | .int i,u=>∃t,u=Value.int i t
 | .str x,u=>∃t,u=Value.str x t
 | .byt b,u=>∃t,u=Value.bytes b t
 | .flt b,u=>∃t,u=Value.float b t
 | .ref a,u=>u=Value.ref a
 | .ty n,u=>u=Value.type n
abbrev c5:List V->List Value->Prop:=Paired RelV
theorem c5.length (r:c5 xs us):xs.length=us.length:=Paired.length r
theorem c5.get:∀{xs:List V} {us:List Value} {i:Nat} {x:V},c5 xs us->xs[i]?=some x->∃u,us[i]?=some u/\RelV x u
 | _,_,_,_,.nil,e=>by simp at e
 | _,_,0,_,.cons r _,e=>by simp at e;subst e;exact ⟨_,rfl,r⟩
 | _,_,i+1,x,.cons _ t,e=>by
  obtain ⟨u,h1,h2⟩:=c5.get (i:=i) (x:=x) t (by simpa using e);exact ⟨u,by simpa using h1,h2⟩
theorem c5.set {x:V} {u:Value} (r:RelV x u):∀{xs:List V} {us:List Value} (i:Nat),c5 xs us->c5 (xs.set i x) (us.set i u)
 | _,_,_,.nil=>.nil
 | _,_,0,.cons _ t=>.cons r t
 | _,_,i+1,.cons q t=>.cons q (c5.set r i t)
theorem c5.append:∀{xs ys:List V} {us ws:List Value},c5 xs us->c5 ys ws->c5 (xs++ys) (us++ws)
 | _,_,_,_,.nil,s=>s
 | _,_,_,_,.cons r t,s=>.cons r (c5.append t s)
theorem c5.take:∀{xs:List V} {us:List Value} (n:Nat),c5 xs us->c5 (xs.take n) (us.take n)
 | _,_,0,_=>.nil
 | _,_,_+1,.nil=>.nil
 | _,_,n+1,.cons r t=>.cons r (c5.take n t)
theorem c5.drop:∀{xs:List V} {us:List Value} (n:Nat),c5 xs us->c5 (xs.drop n) (us.drop n)
 | _,_,0,r=>r
 | _,_,_+1,.nil=>.nil
 | _,_,n+1,.cons _ t=>c5.drop n t
def CN:Option V->Option Value->Prop
 | some v,some u=>RelV v u
 | none,none=>True
 | _,_=>False
def KV {κ:Type}:List (κ×V)->List (κ×Value)->Prop:=Paired λ(p:κ×V) (q:κ×Value)=>p.1=q.1/\RelV p.2 q.2
def kV:Key->V
 | .inl i=>.int i
 | .inr x=>.str x
inductive HO where
 | lst (xs:List V)
 | tup (xs:List V)
 | dK (kvs:List (Key×V)) | dT (kvs:List (List Key×V))
 | set (S:Int->Bool) (n:Nat)
 | ins (C dx:Addr) (fs:List (Str×V))
 | own (x:Addr)
 | xd (fs:List (Str×V))
 | met (f x:Addr)
 | rng (lo hi:Int)
 | frz (o:Obj) (u:HO)
 | tbl (ps:Array Value)
 | ext (φ:Heap->Prop)
abbrev Hp:=Addr->Option HO
def upd (H:Hp) (a:Addr) (o:HO):Hp:=λb=>if b=a then some o else H b
theorem aJ:upd H a o a=some o:=by unfold upd;rw[if_pos rfl]
theorem bD (h:b≠a):upd H a o b=H b:=by unfold upd;rw[if_neg h]
theorem fU {H:Hp} (h:H a=some o) (h':H b=none):a≠b:=by
 intro e;subst e;rw[h] at h';cases h'
section
variable (P:Program) (w:World)
def jG (H:Hp) (h:Heap) (a:Addr):HO->Prop
 | .lst xs=>xs.length<=sizeLine/\∃(its:List Value) (n:Nat),c5 xs its/\h.get? a=some { cls:=.type "list",data:=.seq its.toArray n }
 | .tup xs=>xs.length<=sizeLine/\∃its:List Value,c5 xs its/\IsTup h a its.toArray
 | .dK kvs=>kvs.length<=sizeLine/\(a == sysModules)=false/\∃vs,KV kvs vs/\h.DictOf (KQ P w) a vs
 | .dT kvs=>kvs.length<=sizeLine/\(a == sysModules)=false/\∃xs:List (List Key×Addr×Value),
   Paired (λ(p:List Key×V) (q:List Key×Addr×Value)=>p.1=q.1/\H q.2.1=some (.tup (p.1.map kV))/\RelV p.2 q.2.2) kvs xs /\
   ∃o es ep,h.get? a=some o/\o.ExactDict/\o.data=.dict es ep/\es.toList=xs.map (entryOfKey (tupleKind (KQ P w)))/\(xs.map (·.1)).Nodup
 | .set S n=>h.SetOf (intKind P w) a S n
 | .ins C dx fs=>H dx=some (.own a)/\fs.length<=1000/\dx≠a/\h.get? a=some (PySem.W.instObj C dx) /\
   ∃mA,h.Ns1 dx mA/\(∀f,CN (fs.lookup f) (mA f))/\PySem.Within mA (fs.map (·.1))
 | .own _=>∃o,h.get? a=some o
 | .xd fs=>∃mA,h.Ns1 a mA/\∀f,CN (fs.lookup f) (mA f)
 | .rng lo hi=>∃t u v,h.get? a=some { cls:=.type "range",data:=.fields #[.int lo t,.int hi u,.int 1 v] }
 | .frz o u=>h.get? a=some o/\jG H h a u
 | .tbl ps=>h.get? a=some { cls:=.none,data:=.fields ps }
 | .met f x=>h.get? a=some (PySem.W.methodObj (.ref f) (.ref x))
 | .ext φ=>φ h/\(∃o,h.get? a=some o)/\∀h1 h2:Heap,φ h1->(∀o,h1.get? a=some o->h2.get? a=some o)->φ h2
def Aa (H:Hp) (h:Heap):Prop:=∀a o,H a=some o->jG P w H h a o
end
section
variable {P:Program} {w:World} {H H':Hp} {h h':Heap} {a:Addr} {o:HO}
theorem jG.lt (x:jG P w H h a o):a < h.objs.size:=by
 cases o with
 | lst xs=>obtain ⟨_,_,_,_,e⟩:=x;exact Heap.lt_size e
 | tup xs=>obtain ⟨_,_,_,p⟩:=x;exact p.lt
 | dK kvs=>obtain ⟨_,_,_,_,o,_,_,e,_⟩:=x;exact Heap.lt_size e
 | dT kvs=>obtain ⟨_,_,_,_,o,_,_,e,_⟩:=x;exact Heap.lt_size e
 | set S n=>obtain ⟨o,_,_,_,e,_⟩:=x;exact Heap.lt_size e
 | ins C dx fs=>obtain ⟨_,_,_,e,_⟩:=x;exact Heap.lt_size e
 | own y=>obtain ⟨_,e⟩:=x;exact Heap.lt_size e
 | xd fs=>obtain ⟨_,⟨_,_,_,e,_⟩,_⟩:=x;exact Heap.lt_size e
 | rng lo hi=>obtain ⟨_,_,_,e⟩:=x;exact Heap.lt_size e
 | frz ob u=>obtain ⟨e,_⟩:=x;exact Heap.lt_size e
 | tbl ps=>exact Heap.lt_size (show h.get? a=some _ from x)
 | met f y=>exact Heap.lt_size (show h.get? a=some _ from x)
 | ext φ=>obtain ⟨_,⟨_,e⟩,_⟩:=x;exact Heap.lt_size e
theorem Paired.mapP {α β:Type} {F G:α->β->Prop}:∀{l₁:List α} {l₂:List β},Paired F l₁ l₂->(∀a b,F a b->G a b)->Paired G l₁ l₂
 | _,_,.nil,_=>.nil
 | _,_,.cons r t,f=>.cons (f _ _ r) (Paired.mapP t f)
theorem Paired.imp' {F G:α->β->Prop} (f:∀a b,F a b->G a b) {l₁:List α} {l₂:List β} (r:Paired F l₁ l₂):Paired G l₁ l₂:=Paired.mapP r f
theorem jG.stay (x:jG P w H h a o) (k:∀b u,(b=a\/H b=some (.own a))->h.get? b=some u->h'.get? b=some u)
  (ho:∀b,H b=some (.own a)->H' b=some (.own a)) (ht:∀b xs,H b=some (.tup xs)->H' b=some (.tup xs)):jG P w H' h' a o:=by
 induction o with
 | lst xs=>obtain ⟨z,its,n,r,e⟩:=x;exact ⟨z,its,n,r,k _ _ (.inl rfl) e⟩
 | tup xs=>obtain ⟨z,its,r,ob,e,c⟩:=x;exact ⟨z,its,r,ob,k _ _ (.inl rfl) e,c⟩
 | dK kvs=>obtain ⟨z,y,vs,r,ob,es,ep,e,c⟩:=x;exact ⟨z,y,vs,r,ob,es,ep,k _ _ (.inl rfl) e,c⟩
 | dT kvs =>
  obtain ⟨z,y,xs,r,ob,es,ep,e,c⟩:=x;exact ⟨z,y,xs,Paired.mapP r λp q z=>⟨z.1,ht _ _ z.2.1,z.2.2⟩,ob,es,ep,k _ _ (.inl rfl) e,c⟩
 | set S n=>obtain ⟨ob,es,ep,t,e,c⟩:=x;exact ⟨ob,es,ep,t,k _ _ (.inl rfl) e,c⟩
 | ins C dx fs =>
  obtain ⟨d,z,ne,e,mA,⟨od,es,ep,e2,c⟩,r⟩:=x;exact ⟨ho _ d,z,ne,k _ _ (.inl rfl) e,mA,⟨od,es,ep,k _ _ (.inr d) e2,c⟩,r⟩
 | own y=>obtain ⟨ob,e⟩:=x;exact ⟨ob,k _ _ (.inl rfl) e⟩
 | xd fs=>obtain ⟨mA,⟨od,es,ep,e,c⟩,r⟩:=x;exact ⟨mA,⟨od,es,ep,k _ _ (.inl rfl) e,c⟩,r⟩
 | rng lo hi=>obtain ⟨t,u,v,e⟩:=x;exact ⟨t,u,v,k _ _ (.inl rfl) e⟩
 | frz ob u ih=>obtain ⟨e,q⟩:=x;exact ⟨k _ _ (.inl rfl) e,ih q⟩
 | tbl ps =>
  have e:h.get? a=some { cls:=.none,data:=.fields ps }:=x;show h'.get? a=some { cls:=.none,data:=.fields ps }
  exact k a _ (.inl rfl) e
 | met f y =>
  have e:h.get? a=some (PySem.W.methodObj (.ref f) (.ref y)):=x;show h'.get? a=some (PySem.W.methodObj (.ref f) (.ref y))
  exact k a _ (.inl rfl) e
 | ext φ=>obtain ⟨p,⟨o,e⟩,st⟩:=x;exact ⟨st _ _ p λo q=>k _ _ (.inl rfl) q,⟨o,k _ _ (.inl rfl) e⟩,st⟩
theorem Aa.lt (x:Aa P w H h) (e:H a=some o):a < h.objs.size:=(x a o e).lt
theorem Aa.fresh (x:Aa P w H h) (e:h.objs.size<=a):H a=none:=by
 cases q:H a with
 | none=>rfl
 | some u=>exact absurd (bx (x.lt q) e) (fG _)
theorem Aa.kept (x:Aa P w H h) (k:∀b u,h.get? b=some u->h'.get? b=some u):Aa P w H h':=λa o e =>
 (x a o e).stay (λb u _ q=>k b u q) (λ_ q=>q) λ_ _ q=>q
theorem Aa.laid (x:Aa P w H h) (k:∀b u,h.get? b=some u->h'.get? b=some u) (hp:h.objs.size<=a) (new:jG P w (upd H a o) h' a o):Aa P w (upd H a o) h':=λb u e=>by
 have hn:=x.fresh hp;by_cases hb:b=a
 ·subst hb;rw[aJ] at e;cases e;exact new
 ·rw[bD hb] at e;exact (x b u e).stay (λc v _ q=>k c v q) (λc q=>by rw[bD (fU q hn)];exact q) λc xs q=>by rw[bD (fU q hn)];exact q
end
def Rd (H:Hp) (a:Addr) (u:HO):Prop:=H a=some u\/∃o,H a=some (.frz o u)
theorem Rd.ok (r:Rd H a u) (x:Aa P w H h):jG P w H h a u:=by
 rcases r with r | ⟨o,r⟩
 ·exact x a u r
 ·obtain ⟨_,q⟩:=x a _ r;exact q
def VB:Option HO->Prop
 | some (.lst _)=>True
 | some (.dK _)=>True
 | some (.dT _)=>True
 | some (.set _ _)=>True
 | some (.ins _ _ _)=>True
 | some (.ext _)=>True
 | _=>False
section
variable {P:Program} {w:World} {H:Hp} {h h':Heap} {x e:Addr} {o':HO}
theorem Aa.write (ok:Aa P w H h) (mu:VB (H x)) (he:e=x\/H e=some (.own x)) (k:∀b u,b≠e->h.get? b=some u->h'.get? b=some u) (heo:∃u,h'.get? e=some u)
  (new:jG P w (upd H x o') h' x o'):Aa P w (upd H x o') h':=λb u q=>by
 have nown:∀c y,H c=some (.own y)->c≠x:=λc y r z=>by subst z;rw[r] at mu;exact mu
 have ntup:∀c xs,H c=some (.tup xs)->c≠x:=λc xs r z=>by subst z;rw[r] at mu;exact mu
 by_cases hb:b=x
 ·subst hb;rw[aJ] at q;cases q;exact new
 ·rw[bD hb] at q;by_cases hbe:b=e
  ·have q':H b=some (.own x):=by
    rcases he with z | z
    ·exact absurd (hbe.trans z) hb
    ·rw[hbe];exact z
   rw[q] at q';cases q';obtain ⟨v,hv⟩:=heo;exact ⟨v,by rw[hbe];exact hv⟩
  ·refine (ok b u q).stay (λc v hc r=>k c v ?_ r) (λc r=>by rw[bD (nown c b r)];exact r) λc xs r=>by rw[bD (ntup c xs r)];exact r
   rcases hc with rfl | hc
   ·exact hbe
   ·rintro rfl;rcases he with z | z
    ·exact nown c b hc z
    ·rw[hc] at z;cases z;exact hb rfl
end
structure Un (fs ex:List Addr) (H H':Hp) (h h':Heap):Prop where
 keep:∀b o,h.get? b=some o->H b=none->b∉fs->b∉ex->h'.get? b=some o
 slot:∀b o,h.get? b=some o->H b=none->b∈fs->b∉ex->∃sl,h'.get? b=some { o with slots:=sl }
 free:∀b o,h.get? b=some o->H b=none->b∉ex->H' b=none
 there:∀b o,h.get? b=some o->b∉ex->∃o',h'.get? b=some o'
 tups:∀b xs,H b=some (.tup xs)->H' b=some (.tup xs)
 frzs:∀b o u,H b=some (.frz o u)->H' b=some (.frz o u)
 tbls:∀b ps,H b=some (.tbl ps)->∃more,H' b=some (.tbl (ps++more))
section
variable {fs fs' ex ex':List Addr} {H H1 H2:Hp} {h h1 h2 h':Heap} {a x e:Addr} {o:HO}
theorem Un.any (u:Un fs ex H H1 h h1) (q:h.get? b=some ob) (n:H b=none) (hx:b∉ex):∃sl,h1.get? b=some { ob with slots:=sl }:=by
 by_cases hb:b∈fs
 ·exact u.slot b ob q n hb hx
 ·exact ⟨ob.slots,u.keep b ob q n hb hx⟩
theorem Un.kept (k:∀b u,h.get? b=some u->h'.get? b=some u):Un fs ex H H h h' :=
 ⟨λb ob q _ _ _=>k b ob q,λb ob q _ _ _=>⟨ob.slots,k b ob q⟩,λ_ _ _ n _=>n,λb ob q _=>⟨ob,k b ob q⟩,λ_ _ q=>q,λ_ _ _ q=>q,λ_ ps q=>⟨#[],by rw[q];simp⟩⟩
theorem Un.refl:Un fs ex H H h h:=Un.kept λ_ _ q=>q
theorem Un.laid (k:∀b u,h.get? b=some u->h'.get? b=some u) (hp:h.objs.size<=a) (hn:H a=none):Un fs ex H (upd H a o) h h' where
 keep:=λb u q _ _ _=>k b u q
 slot:=λb u q _ _ _=>⟨u.slots,k b u q⟩
 free:=λb u q n _=>by rw[bD (cV (bx (Heap.lt_size q) hp))];exact n
 there:=λb u q _=>⟨u,k b u q⟩
 tups:=λb xs q=>by rw[bD (fU q hn)];exact q
 frzs:=λb u xs q=>by rw[bD (fU q hn)];exact q
 tbls:=λb ps q=>⟨#[],by rw[bD (fU q hn),q];simp⟩
theorem Un.write (mu:VB (H x)) (he:e=x\/H e=some (.own x)) (k:∀b u,b≠e->h.get? b=some u->h'.get? b=some u) (heo:∃u,h'.get? e=some u):Un fs ex H (upd H x o) h h':=by
 have hx:∀b,H b=none->b≠x:=λb n z=>by subst z;rw[n] at mu;exact mu
 have hb:∀b,H b=none->b≠e:=λb n z=>by
  subst z;rcases he with r | r
  ·exact hx b n r
  ·rw[n] at r;cases r
 have hm:∀b u,H b=some u->¬VB (some u)->b≠x:=λb u q nm z=>by subst z;rw[q] at mu;exact nm mu
 refine ⟨λb u q n _ _=>k b u (hb b n) q,λb u q n _ _=>⟨u.slots,k b u (hb b n) q⟩,λb u q n _=>by rw[bD (hx b n)];exact n,λb u q _=>?_,
  λb xs q=>by rw[bD (hm b _ q λz=>z)];exact q,λb u xs q=>by rw[bD (hm b _ q λz=>z)];exact q,λb ps q=>⟨#[],by rw[bD (hm b _ q λz=>z),q];simp⟩⟩
 by_cases hbe:b=e
 ·subst hbe;exact heo
 ·exact ⟨u,k b u hbe q⟩
end
def Vw (h:Heap) (H:Hp):List Addr:=(List.range h.objs.size).filter λa=>(H a).isSome
def E8 (h:Heap) (H:Hp):Heap:=PySem.W.hideAll h (Vw h H)
theorem Mp (h:Heap) (H:Hp):(E8 h H).objs.size=h.objs.size:=PySem.W.hideAll_size _ _
theorem Ou (e:h.get? b=some o) (n:H b=none):(E8 h H).get? b=some o :=
 PySem.W.hideAll_get _ e λhm=>by
  have q:(H b).isSome=true:=(qU.mp hm).2;rw[n] at q;simp at q
theorem Qv (e:(E8 h H).get? b=some o):h.get? b=some o/\H b=none:=by
 have e':h.get? b=some o:=PySem.W.of_hideAll (Vw h H) e;refine ⟨e',?_⟩;cases q:H b with
 | none=>rfl
 | some x =>
  have hm:b∈Vw h H:=qU.mpr ⟨kf.mpr (Heap.lt_size e'),by simp [q]⟩;have z:(E8 h H).get? b=none:=PySem.W.hideAll_none (Vw h H) hm;rw[z] at e;cases e
structure Mod (K:FG9) (mg:Str->Option Value) (base:Heap):Prop where
 kin:K.In base
 glob:base.Ns mainGlobals mg
 blt:∃mb,base.Ns builtinsNs mb/\∀x:Str,x≠"__name__"->mb x=bootBuiltins x
 nolimit:base.NoLimit
 seer:base.NoSeer
structure Cx where
 prog:Program
 w:World
 K:FG9
 mg:Str->Option Value
 base:Heap
 A:Around
 N:List Str
 s₀:Shared
 H₀:Hp
 env:Env
 outer:List Env
 stack:List Env
 ex:List Addr
 fn:Str->Bool
 calm:Bool
 pn:List (Addr×Obj)
 xe:Value->Shared->Prop
def MO (l:List Env):List Addr:=l.filterMap (·.frame)
abbrev Cx.fs (X:Cx):List Addr:=MO X.outer
def VV (sc:Scope) (x:Str):Prop:=sc.names.lookup x=some .local\/sc.names.lookup x=some .cell\/sc.names.lookup x=some .free
def Loc (sc:Scope) (x:Str):Prop:=sc.names.lookup x=some .local\/sc.names.lookup x=some .cell
def Look (env:Env) (h:Heap) (m:Str->Option Value) (x:Str) (u:Value):Prop :=
 (env.kindOf x=some .local/\m x=some u)\/((env.kindOf x=some .cell\/env.kindOf x=some .free)/\∃c,env.cells.lookup x=some c/\h.IsCell c (some u))
structure Cx.Ok (X:Cx):Prop where
 mod:Mod X.K X.mg X.base
 kind:X.env.scope.kind=.function
 glob:X.env.globals=mainGlobals
 blt:X.env.builtins=builtinsNs
 above:X.s₀.heap.objs.size<=X.env.locals
 inj:∀x y c,X.env.cells.lookup x=some c->X.env.cells.lookup y=some c->x=y
 has:∀x,(X.env.kindOf x=some .cell\/X.env.kindOf x=some .free)->∃c,X.env.cells.lookup x=some c
 cab:∀x c,X.fn x=true->X.env.cells.lookup x=some c->X.s₀.heap.objs.size<=c
 hd:X.calm=true->X.A.handled=none
 frames:X.A.frames=some X.stack
 stk:X.stack=X.outer\/(X.stack=X.env :: X.outer/\X.env.frame=some X.env.locals)
 exf:∀b∈X.ex,b≠X.env.locals/\∀x c,X.env.cells.lookup x=some c->c≠b
 bs:∀b o,X.base.get? b=some o->X.s₀.heap.get? b=some o/\X.H₀ b=none
 bsz:X.base.objs.size<=X.s₀.heap.objs.size
 noex:∀b o,X.base.get? b=some o->b∉X.ex
 exfs:∀b∈X.ex,b∉X.fs
 funs:X.s₀.heap.FunFrames X.base X.outer
 frf:∀b∈X.fs,X.H₀ b=none
structure Inv (X:Cx) (pins:List (Addr×Obj)) (σ:List (Option V)) (H:Hp) (s:Shared):Prop where
 ok:X.Ok
 os:s.os=X.s₀.os
 bare:AllBare s.gens
 base:Un X.fs X.ex X.H₀ H X.s₀.heap s.heap
 loc:∃m,s.heap.Ns X.env.locals m/\∀(i:Nat) (x:Str) (v:V),X.N[i]?=some x->σ[i]?=some (some v)->VV X.env.scope x->∃u,RelV v u/\Look X.env s.heap m x u
 cell:∀x c,X.env.cells.lookup x=some c->∃v,s.heap.IsCell c v
 free:H X.env.locals=none
 freeC:∀x c,X.env.cells.lookup x=some c->H c=none
 pin:∀p∈X.pn++pins,s.heap.get? p.1=some p.2/\H p.1=none/\p.1≠X.env.locals/\p.1∉X.fs/\∀v,p.2.data≠.cell v
 hok:Aa X.prog X.w H s.heap
 len:σ.length=X.N.length
section
variable {X:Cx} {pins:List (Addr×Obj)} {σ:List (Option V)} {H H':Hp} {s:Shared} {h':Heap}
theorem Cx.Ok.nofr (ok:X.Ok) (e:X.base.get? b=some o):b∉X.fs:=λhb=>by
 have:=(ok.funs.mem hb).1;rw[e] at this;cases this
theorem Inv.bs (I:Inv X pins σ H s):∀b o,X.base.get? b=some o->s.heap.get? b=some o/\H b=none:=λb o e =>
 ⟨I.base.keep b o (I.ok.bs b o e).1 (I.ok.bs b o e).2 (I.ok.nofr e) (I.ok.noex b o e),I.base.free b o (I.ok.bs b o e).1 (I.ok.bs b o e).2 (I.ok.noex b o e)⟩
theorem Inv.bk (I:Inv X pins σ H s):∀b o,X.base.get? b=some o->s.heap.get? b=some o:=λb o e=>(I.bs b o e).1
theorem Inv.mod (I:Inv X pins σ H s):Mod X.K X.mg X.base:=I.ok.mod
theorem Inv.kIn (I:Inv X pins σ H s):X.K.In s.heap:=I.ok.mod.kin.keeps I.bk
theorem Inv.nolimit (I:Inv X pins σ H s):s.heap.NoLimit:=I.ok.mod.nolimit.keeps I.bk
theorem Inv.lt (I:Inv X pins σ H s):X.env.locals < s.heap.objs.size:=let ⟨_,hn,_⟩:=I.loc;hn.lt
theorem Inv.sz (I:Inv X pins σ H s):X.s₀.heap.objs.size<=s.heap.objs.size:=ag I.ok.above (aT I.lt)
theorem Inv.nofs (I:Inv X pins σ H s) {a:Addr} (h:s.heap.objs.size<=a):a∉X.fs:=λhb=>by
 obtain ⟨_,o,ho,_⟩:=I.ok.funs.mem hb;exact absurd (bx (Heap.lt_size ho) (ag I.sz h)) (fG _)
theorem Inv.cne (I:Inv X pins σ H s):∀x c,X.env.cells.lookup x=some c->c≠X.env.locals:=λx c e z=>by
 obtain ⟨v,o,ho,hd⟩:=I.cell x c e;obtain ⟨m,⟨o',es,ep,ho',hd',_⟩,_⟩:=I.loc;rw[z,ho'] at ho;cases ho;rw[hd'] at hd;cases hd
theorem Inv.funs (I:Inv X pins σ H s):s.heap.FunFrames X.base X.outer:=by
 have all:∀(l:List Env),(∀b∈MO l,b∈X.fs)->X.s₀.heap.FunFrames X.base l->s.heap.FunFrames X.base l:=by
  intro l
  induction l with
  | nil=>intro _ _;trivial
  | cons env r ih =>
   intro hs hl;obtain ⟨hk,⟨L,o,hf,hn,ho,hd⟩,hr⟩:=hl;have hL:L∈X.fs:=hs L (by unfold MO;rw[FK,hf];exact dB);obtain ⟨sl,e⟩:=I.base.slot L o ho (I.ok.frf L hL) hL λz=>I.ok.exfs L z hL
   exact ⟨hk,⟨L,_,hf,hn,e,hd⟩,ih (λb hb=>hs b (by unfold MO;rw[FK,hf];exact bZ _ hb)) hr⟩
 exact all X.outer (λ_ hb=>hb) I.ok.funs
theorem Inv.stack (I:Inv X pins σ H s):s.heap.FunFrames X.base X.stack:=by
 rcases I.ok.stk with e | ⟨e,hf⟩
 ·rw[e];exact I.funs
 ·rw[e];obtain ⟨m,hn,_⟩:=I.loc;refine .cons (by rw[I.ok.kind];decide) hf hn ?_ I.funs;exact Heap.get?_none_of_le (ag I.ok.bsz I.ok.above)
theorem Inv.stkSub (I:Inv X pins σ H s):∀b∈MO X.stack,b∈X.env.locals :: X.fs:=λb hb=>by
 rcases I.ok.stk with e | ⟨e,hf⟩
 ·rw[e] at hb;exact bZ _ hb
 ·rw[e] at hb;unfold MO at hb;rw[FK,hf] at hb;exact hb
theorem Inv.stkFree (I:Inv X pins σ H s):∀b∈MO X.stack,H b=none:=λb hb=>by
 rcases aL.mp (I.stkSub b hb) with e | hb
 ·rw[e];exact I.free
 ·obtain ⟨_,o,ho,_⟩:=I.ok.funs.mem hb;exact I.base.free b o ho (I.ok.frf b hb) λz=>I.ok.exfs b z hb
theorem Inv.step {ch:List Addr} (I:Inv X pins σ H s)
  (hch:∀b∈ch,(b∈X.ex\/X.s₀.heap.objs.size<=b)/\b≠X.env.locals/\(∀x c,X.env.cells.lookup x=some c->c≠b)/\∀p∈X.pn++pins,p.1≠b)
  (keep:∀b o,b≠X.env.locals->b∉X.fs->b∉ch->s.heap.get? b=some o->H b=none->h'.get? b=some o)
  (slot:∀b o,b≠X.env.locals->b∈X.fs->b∉ch->s.heap.get? b=some o->H b=none->∃sl,h'.get? b=some { o with slots:=sl }) (free:∀b o,b∉ch->s.heap.get? b=some o->H b=none->H' b=none)
  (there:∀b o,b∉ch->s.heap.get? b=some o->∃o',h'.get? b=some o')
  (tups:∀b xs,H b=some (.tup xs)->H' b=some (.tup xs)) (frzs:∀b o u,H b=some (.frz o u)->H' b=some (.frz o u)) (tbls:∀b ps,H b=some (.tbl ps)->∃more,H' b=some (.tbl (ps++more)))
  (ns:∀m,s.heap.Ns X.env.locals m->h'.Ns X.env.locals m) (hok:Aa X.prog X.w H' h') (hg:AllBare g') :
  Inv X pins σ H' { s with heap:=h',gens:=g',drawn:=d',toks:=t' }:=by
 have neL:∀b o,X.s₀.heap.get? b=some o->b≠X.env.locals:=λb o e=>cV (bx (Heap.lt_size e) I.ok.above)
 have neC:∀b o,X.s₀.heap.get? b=some o->b∉X.ex->b∉ch:=λb o e hx hb=>by
  rcases (hch b hb).1 with z | z
  ·exact hx z
  ·exact absurd (bx (Heap.lt_size e) z) (fG _)
 have cellK:∀x c,X.env.cells.lookup x=some c->∀v,s.heap.IsCell c v->h'.IsCell c v:=λx c e v ⟨o,ho,hd⟩=>by
  have nch:c∉ch:=λz=>(hch c z).2.2.1 x c e rfl
  by_cases hc:c∈X.fs
  ·obtain ⟨sl,q⟩:=slot c o (I.cne x c e) hc nch ho (I.freeC x c e);exact ⟨_,q,hd⟩
  ·exact ⟨o,keep c o (I.cne x c e) hc nch ho (I.freeC x c e),hd⟩
 refine ⟨I.ok,I.os,hg,⟨λb o e n hb hx=>?_,λb o e n hb hx=>?_,λb o e n hx=>?_,λb o e hx=>?_,λb xs e=>tups b xs (I.base.tups b xs e),λb o xs e=>frzs b o xs (I.base.frzs b o xs e),λb ps e=>?_⟩,?_,λx c e=>?_,?_,λx c e=>?_,λp hp=>?_,hok,I.len⟩
 ·exact keep b o (neL b o e) hb (neC b o e hx) (I.base.keep b o e n hb hx) (I.base.free b o e n hx)
 ·obtain ⟨sl,e1⟩:=I.base.slot b o e n hb hx;obtain ⟨sl',e2⟩:=slot b _ (neL b o e) hb (neC b o e hx) e1 (I.base.free b o e n hx);exact ⟨sl',e2⟩
 ·obtain ⟨o',e1⟩:=I.base.there b o e hx;exact free b o' (neC b o e hx) e1 (I.base.free b o e n hx)
 ·obtain ⟨o',e1⟩:=I.base.there b o e hx;exact there b o' (neC b o e hx) e1
 ·obtain ⟨m1,e1⟩:=I.base.tbls b ps e;obtain ⟨m2,e2⟩:=tbls b _ e1;exact ⟨m1++m2,by rw[e2,Array.append_assoc]⟩
 ·obtain ⟨m,hn,hl⟩:=I.loc;refine ⟨m,ns m hn,λi x v e1 e2 e3=>?_⟩;obtain ⟨u,r,l⟩:=hl i x v e1 e2 e3;refine ⟨u,r,?_⟩;rcases l with l | ⟨k,c,e,z⟩
  ·exact .inl l
  ·exact .inr ⟨k,c,e,cellK x c e _ z⟩
 ·obtain ⟨v,z⟩:=I.cell x c e;exact ⟨v,cellK x c e v z⟩
 ·obtain ⟨m,⟨o,_,_,ho,_⟩,_⟩:=I.loc;exact free _ o (λz=>(hch _ z).2.1 rfl) ho I.free
 ·obtain ⟨v,o,ho,hd⟩:=I.cell x c e;exact free c o (λz=>(hch c z).2.2.1 x c e rfl) ho (I.freeC x c e)
 ·obtain ⟨e,n,ne,nf,d⟩:=I.pin p hp;have nch:p.1∉ch:=λz=>(hch p.1 z).2.2.2 p hp rfl
  exact ⟨keep p.1 p.2 ne nf nch e n,free p.1 p.2 nch e n,ne,nf,d⟩
theorem Inv.un (I:Inv X pins σ H s) (u:Un X.fs [] H H' s.heap h') (hok:Aa X.prog X.w H' h'):Inv X pins σ H' { s with heap:=h',toks:=t' }:=by
 obtain ⟨m,⟨o,es,ep,ho,r⟩,_⟩:=id I.loc;obtain ⟨sl,hL⟩:=u.any ho I.free (by simp)
 exact I.step (g':=s.gens) (d':=s.drawn) (ch:=[]) (λ_ z=>nomatch z) (λb o _ hb _ e n=>u.keep b o e n hb (by simp)) (λb o _ hb _ e n=>u.slot b o e n hb (by simp)) (λb o _ e n=>u.free b o e n (by simp)) (λb o _ e=>u.there b o e (by simp)) u.tups u.frzs u.tbls (λm' hm=>by
  obtain ⟨o',es',ep',ho',r'⟩:=hm;rw[ho] at ho';cases ho';exact ⟨_,es',ep',hL,r'⟩) hok I.bare
theorem Inv.call (I:Inv X pins σ H s) (u:Un (MO X.stack) ch H H' s.heap h') (hok:Aa X.prog X.w H' h') (hg:AllBare g')
  (hch:∀b∈ch,(b∈X.ex\/X.s₀.heap.objs.size<=b)/\b≠X.env.locals/\(∀x c,X.env.cells.lookup x=some c->c≠b)/\∀p∈X.pn++pins,p.1≠b) :
  Inv X pins σ H' { s with heap:=h',gens:=g',drawn:=d',toks:=t' }:=by
 obtain ⟨m,⟨o,es,ep,ho,r⟩,_⟩:=id I.loc;obtain ⟨sl,hL⟩:=u.any ho I.free λz=>(hch _ z).2.1 rfl
 exact I.step (ch:=ch) hch (λb o hL hb hc e n=>u.keep b o e n (λz=>(aL.mp (I.stkSub b z)).elim hL hb) hc) (λb o _ _ hc e n=>u.any e n hc) (λb o hc e n=>u.free b o e n hc) (λb o hc e=>u.there b o e hc) u.tups u.frzs u.tbls (λm' hm=>by
  obtain ⟨o',es',ep',ho',r'⟩:=hm;rw[ho] at ho';cases ho';exact ⟨_,es',ep',hL,r'⟩) hok hg
theorem Inv.turned (I:Inv X pins σ H s) (k:∀b o,b≠it->s.heap.get? b=some o->h'.get? b=some o) (hn:H it=none) (hL:it≠X.env.locals)
  (h1:it∈X.ex\/X.s₀.heap.objs.size<=it) (h2:∀x c,X.env.cells.lookup x=some c->c≠it) (h3:∀p∈X.pn++pins,p.1≠it):Inv X pins σ H { s with heap:=h',toks:=t' }:=by
 have nit:∀b u,H b=some u->b≠it:=λb u e z=>by rw[z,hn] at e;cases e
 refine I.step (g':=s.gens) (d':=s.drawn) (ch:=[it]) (λb hb=>?_) (λb o _ _ hc e _=>k b o (λz=>hc (by simp [z])) e) (λb o _ _ hc e _=>⟨o.slots,k b o (λz=>hc (by simp [z])) e⟩) (λ_ _ _ _ n=>n)
  (λb o hc e=>⟨o,k b o (λz=>hc (by simp [z])) e⟩) (λ_ _ e=>e) (λ_ _ _ e=>e) (λb ps e=>⟨#[],by rw[e];simp⟩) (λm hm=>?_) (λb u e=>?_) I.bare
 ·have e:b=it:=by simpa using hb
  subst e;exact ⟨h1,hL,h2,h3⟩
 ·obtain ⟨o,es,ep,ho,r⟩:=hm;exact ⟨o,es,ep,k _ o (Ne.symm hL) ho,r⟩
 ·refine (I.hok b u e).stay (λc v hc q=>k c v ?_ q) (λ_ q=>q) λ_ _ q=>q
  rcases hc with z | z
  ·rw[z];exact nit b u e
  ·exact nit c _ z
theorem Inv.tok (I:Inv X pins σ H s) (t:Nat):Inv X pins σ H { s with toks:=t }:=I.un (h':=s.heap) (t':=t) Un.refl I.hok
theorem Inv.kept (I:Inv X pins σ H s) (k:∀b u,s.heap.get? b=some u->h'.get? b=some u):Inv X pins σ H { s with heap:=h',toks:=t' }:=I.un (Un.kept k) (I.hok.kept k)
theorem Inv.laid {a:Addr} (I:Inv X pins σ H s) (k:∀b u,s.heap.get? b=some u->h'.get? b=some u) (hp:s.heap.objs.size<=a) (new:jG X.prog X.w (upd H a o) h' a o) :
  Inv X pins σ (upd H a o) { s with heap:=h',toks:=t' }:=I.un (Un.laid k hp (I.hok.fresh hp)) (I.hok.laid k hp new)
theorem Inv.write (I:Inv X pins σ H s) (mu:VB (H x)) (he:e=x\/H e=some (.own x)) (k:∀b u,b≠e->s.heap.get? b=some u->h'.get? b=some u) (heo:∃u,h'.get? e=some u)
  (new:jG X.prog X.w (upd H x o) h' x o):Inv X pins σ (upd H x o) { s with heap:=h',toks:=t' }:=I.un (Un.write mu he k heo) (I.hok.write mu he k heo new)
theorem Inv.pins_of (I:Inv X pins σ H s) (h:∀p∈pins',s.heap.get? p.1=some p.2/\H p.1=none/\p.1≠X.env.locals/\p.1∉X.fs/\∀v,p.2.data≠.cell v):Inv X pins' σ H s :=
 ⟨I.ok,I.os,I.bare,I.base,I.loc,I.cell,I.free,I.freeC,λp hp=>(aH.mp hp).elim (λz=>I.pin p (iJ _ z)) (h p),I.hok,I.len⟩
theorem GX {N:List Str} (hN:N.Nodup) {i j:Nat} (a:N[i]?=some x) (b:N[j]?=some x):i=j:=by
 obtain ⟨h1,e1⟩:=aK.mp a;obtain ⟨h2,e2⟩:=aK.mp b;exact (List.getElem_inj hN).mp (e1.trans e2.symm)
theorem C2 {M:Model} {A:Around} {E:Value->Shared->Prop} {i:Nat} {x:Str} {v:V} {u:Value} {Q:Unit->Shared->Prop} (I:Inv X pins σ H s) (hN:X.N.Nodup) (hi:X.N[i]?=some x) (hx:Loc X.env.scope x) (r:RelV v u)
  (h:∀s',Inv X pins (σ.set i (some v)) H s'->(∃a,Heap.SameBut a s.heap s'.heap/\(a=X.env.locals\/X.env.cells.lookup x=some a))->Q () s') (hf:X.fn x=true\/X.env.scope.names.lookup x=some .local:=by first | exact .inl rfl | exact .inr rfl | assumption):wpAny M A (storeName X.env x u) Q E s:=by
 obtain ⟨m,hn,hl⟩:=id I.loc;have hcls:(X.env.scope.kind == .class || (X.env.scope.kind == .module && X.env.locals != X.env.globals))=false:=by rw[I.ok.kind];rfl
 have hiσ:i < σ.length:=by rw[I.len];exact (aK.mp hi).1
 have cne:=I.cne
 have tracked:∀{a:Addr} {h':Heap},(∃o,s.heap.get? a=some o/\H a=none)->Heap.SameBut a s.heap h'->Aa X.prog X.w H h':=λ{a h'} ha hs b ob e=>by
  obtain ⟨_,_,hfree⟩:=ha;refine (I.hok b ob e).stay (λc w' hc q=>(hs.2 c ?_).trans q) (λ_ q=>q) λ_ _ q=>q
  rintro rfl;rcases hc with rfl | hc
  ·rw[hfree] at e;cases e
  ·rw[hfree] at hc;cases hc
 rcases hx with hk | hk
 ·refine wpAny_storeName_local hk hn (λh' hn' hs=>?_) hcls;obtain ⟨oL,_,_,hoL,_⟩:=id hn;refine h _ ⟨I.ok,I.os,I.bare,⟨λb o e n hb hx=>?_,λb o e n hb hx=>?_,I.base.free,λb o e hx=>?_,I.base.tups,I.base.frzs,I.base.tbls⟩,⟨_,hn',λj y v' e1 e2 e3=>?_⟩,λy c e=>?_,I.free,I.freeC,λp hp=>?_,tracked ⟨oL,hoL,I.free⟩ hs,by simpa using I.len⟩ ⟨_,hs,.inl rfl⟩
  ·exact (hs.2 b (cV (bx (Heap.lt_size e) I.ok.above))).trans (I.base.keep b o e n hb hx)
  ·obtain ⟨sl,e1⟩:=I.base.slot b o e n hb hx;exact ⟨sl,(hs.2 b (cV (bx (Heap.lt_size e) I.ok.above))).trans e1⟩
  ·obtain ⟨o',e1⟩:=I.base.there b o e hx;exact ⟨o',(hs.2 b (cV (bx (Heap.lt_size e) I.ok.above))).trans e1⟩
  ·by_cases hj:j=i
   ·subst hj;rw[hi] at e1;cases e1;rw[List.getElem?_set_self hiσ] at e2;cases e2;exact ⟨u,r,.inl ⟨hk,by simp⟩⟩
   ·rw[List.getElem?_set_ne (Ne.symm hj)] at e2;obtain ⟨u',r',q⟩:=hl j y v' e1 e2 e3;refine ⟨u',r',?_⟩;rcases q with ⟨k,e⟩ | ⟨k,c,e,z⟩
    ·refine .inl ⟨k,?_⟩;have:y≠x:=λe=>hj (GX hN e1 (e ▸ hi))
     simp [this,e]
    ·exact .inr ⟨k,c,e,z.sameBut hs (cne y c e)⟩
  ·obtain ⟨w',z⟩:=I.cell y c e;exact ⟨w',z.sameBut hs (cne y c e)⟩
  ·obtain ⟨e,n,ne,nf,d⟩:=I.pin p hp;exact ⟨(hs.2 p.1 ne).trans e,n,ne,nf,d⟩
 ·have hfn:X.fn x=true:=by
   rcases hf with z | z
   ·exact z
   ·rw[z] at hk;cases hk
  obtain ⟨c,hc⟩:=I.ok.has x (.inl hk);obtain ⟨w',z⟩:=I.cell x c hc;refine wpAny_storeName_cell I.ok.kind hk hc z (λh' hc' hs=>?_);obtain ⟨oc,hoc,hocd⟩:=id z;refine h { s with heap:=h' } ⟨I.ok,I.os,I.bare,⟨λb o e n hb hx=>?_,λb o e n hb hx=>?_,I.base.free,λb o e hx=>?_,I.base.tups,I.base.frzs,I.base.tbls⟩,⟨m,hn.sameBut hs (Ne.symm (cne x c hc)),λj y v' e1 e2 e3=>?_⟩,λy c' e=>?_,I.free,I.freeC,λp hp=>?_,tracked ⟨oc,hoc,I.freeC x c hc⟩ hs,by simpa using I.len⟩ ⟨c,hs,.inr hc⟩
  ·exact (hs.2 b (cV (bx (Heap.lt_size e) (I.ok.cab x c hfn hc)))).trans (I.base.keep b o e n hb hx)
  ·obtain ⟨sl,e1⟩:=I.base.slot b o e n hb hx;exact ⟨sl,(hs.2 b (cV (bx (Heap.lt_size e) (I.ok.cab x c hfn hc)))).trans e1⟩
  ·obtain ⟨o',e1⟩:=I.base.there b o e hx;exact ⟨o',(hs.2 b (cV (bx (Heap.lt_size e) (I.ok.cab x c hfn hc)))).trans e1⟩
  ·by_cases hj:j=i
   ·subst hj;rw[hi] at e1;cases e1;rw[List.getElem?_set_self hiσ] at e2;cases e2;exact ⟨u,r,.inr ⟨.inl hk,c,hc,hc'⟩⟩
   ·rw[List.getElem?_set_ne (Ne.symm hj)] at e2;obtain ⟨u',r',q⟩:=hl j y v' e1 e2 e3;refine ⟨u',r',?_⟩;rcases q with q | ⟨k,c',e,z'⟩
    ·exact .inl q
    ·refine .inr ⟨k,c',e,z'.sameBut hs ?_⟩;rintro rfl;exact hj (GX hN e1 (I.ok.inj _ _ _ e hc ▸ hi))
  ·by_cases hcc:c'=c
   ·subst hcc;exact ⟨_,hc'⟩
   ·obtain ⟨w2,z2⟩:=I.cell y c' e;exact ⟨w2,z2.sameBut hs hcc⟩
  ·obtain ⟨e,n,ne,nf,d⟩:=I.pin p hp;refine ⟨(hs.2 p.1 ?_).trans e,n,ne,nf,d⟩;intro q;rw[q,hoc] at e;have q':oc=p.2:=cv e;exact d w' (by rw[<- q'];exact hocd)
theorem vQ {M:Model} {A:Around} {E:Value->Shared->Prop} {i:Nat} {x:Str} {v:V} {u:Value} {Q:Unit->Shared->Prop} (I:Inv X pins σ H s) (hN:X.N.Nodup) (hi:X.N[i]?=some x) (hx:Loc X.env.scope x) (r:RelV v u)
  (h:∀s',Inv X pins (σ.set i (some v)) H s'->Q () s') (hf:X.fn x=true\/X.env.scope.names.lookup x=some .local:=by first | exact .inl rfl | exact .inr rfl | assumption):wpAny M A (storeName X.env x u) Q E s :=
 C2 I hN hi hx r (λs' I' _=>h s' I') hf
theorem Inv.call' (I:Inv X pins σ H s) (ho:s'.os=s.os) (u:Un (MO X.stack) ch H H' s.heap s'.heap) (hok:Aa X.prog X.w H' s'.heap) (hg:AllBare s'.gens)
  (hch:∀b∈ch,(b∈X.ex\/X.s₀.heap.objs.size<=b)/\b≠X.env.locals/\(∀x c,X.env.cells.lookup x=some c->c≠b)/\∀p∈X.pn++pins,p.1≠b):Inv X pins σ H' s':=by
 obtain ⟨h',g',d',t',o'⟩:=s';have e:o'=s.os:=ho;subst e;exact I.call (g':=g') (t':=t') (d':=d') u hok hg hch
end
abbrev XK:=Value->Option Addr->Hp->Prop
abbrev St:=List (Option V)
abbrev VK:=V->Hp->Prop
abbrev TE:=St->Hp->VK->Prop
abbrev TT:=St->Hp->(Bool->Hp->Prop)->Prop
abbrev TA:=St->Hp->(List V->Hp->Prop)->Prop
structure Ends where
 nx:St->Hp->Prop
 rt:VK
 bk:St->Hp->Prop:=λ_ _=>False
 ct:St->Hp->Prop:=λ_ _=>False
abbrev TS:=Ends->St->Hp->Prop
def EP (X:Cx) (pins:List (Addr×Obj)) (σ:St) (Q:VK) (u:Value) (s':Shared):Prop:=∃v H',Inv X pins σ H' s'/\RelV v u/\Q v H'
def TP (X:Cx) (pins:List (Addr×Obj)) (σ:St) (Q:Bool->Hp->Prop) (b:Bool) (s':Shared):Prop:=∃H',Inv X pins σ H' s'/\Q b H'
def AP (X:Cx) (pins:List (Addr×Obj)) (σ:St) (Q:List V->Hp->Prop) (us:List Value) (s':Shared):Prop:=∃vs H',Inv X pins σ H' s'/\c5 vs us/\Q vs H'
def SP (X:Cx) (pins:List (Addr×Obj)) (D:Ends) (f:Flow) (s':Shared):Prop :=
 match f with
 | .next=>∃σ' H',Inv X pins σ' H' s'/\D.nx σ' H'
 | .brk=>∃σ' H',Inv X pins σ' H' s'/\D.bk σ' H'
 | .cont=>∃σ' H',Inv X pins σ' H' s'/\D.ct σ' H'
 | .ret u=>∃v σ' H',Inv X pins σ' H' s'/\RelV v u/\D.rt v H'
def PE (X:Cx) (e:Expr) (t:TE):Prop :=
 ∀(pins:List (Addr×Obj)) (s:Shared) (σ:St) (H:Hp) (Q:VK),Inv X pins σ H s->t σ H Q->wpAny (model X.prog X.w) X.A (eval e X.env) (EP X pins σ Q) X.xe s
def PT (X:Cx) (e:Expr) (t:TT):Prop :=
 ∀(pins:List (Addr×Obj)) (s:Shared) (σ:St) (H:Hp) (Q:Bool->Hp->Prop),Inv X pins σ H s->t σ H Q->wpAny (model X.prog X.w) X.A (isTrue e X.env (eval e X.env)) (TP X pins σ Q) X.xe s
def PW (X:Cx) (e:Expr) (t:TT):Prop :=
 ∀(whole:Sem Value) (pins:List (Addr×Obj)) (s:Shared) (σ:St) (H:Hp) (Q:Bool->Hp->Prop),Inv X pins σ H s->t σ H Q->wpAny (model X.prog X.w) X.A (isTrue e X.env whole) (TP X pins σ Q) X.xe s
theorem PW.pt (h:PW X e t):PT X e t:=h _
def PA (X:Cx) (es:List Expr) (t:TA):Prop :=
 ∀(pos:Pos) (pins:List (Addr×Obj)) (s:Shared) (σ:St) (H:Hp) (Q:List V->Hp->Prop),Inv X pins σ H s->t σ H Q->wpAny (model X.prog X.w) X.A (spliced (backTo pos (starEach es X.env))) (AP X pins σ Q) X.xe s
def PS (X:Cx) (st:Stmt) (t:TS):Prop :=
 ∀(pins:List (Addr×Obj)) (s:Shared) (σ:St) (H:Hp) (D:Ends),Inv X pins σ H s->t D σ H->wpAny (model X.prog X.w) X.A (exec st X.env) (SP X pins D) X.xe s
def JY (X:Cx) (st:List Stmt) (t:TS):Prop :=
 ∀(pins:List (Addr×Obj)) (s:Shared) (σ:St) (H:Hp) (D:Ends),Inv X pins σ H s->t D σ H->wpAny (model X.prog X.w) X.A (execs st X.env) (SP X pins D) X.xe s
theorem iq {t:Sem α} {Q Q':α->Shared->Prop} (h:wpAny M A t Q E s) (hQ:∀a s,Q a s->Q' a s):wpAny M A t Q' E s:=wpAny_mono h hQ λ_ _ x=>x
section
variable {X:Cx}
def Sf (i:Nat):TE:=λσ H Q=>∃v,σ[i]?=some (some v)/\Q v H
def tC (v:V):TE:=λ_ H Q=>Q v H
theorem S7 {i:Nat} {x:Str} {pos:Pos} (hN:X.N[i]?=some x) (hv:VV X.env.scope x) (hd:(x == ("__debug__":Str))=false:=by decide) (hcd:(x == ("__classdict__":Str))=false:=by decide):PE X (.Name x pos) (Sf i):=by
 intro pins s σ H Q I h;obtain ⟨v,e,h⟩:=h;obtain ⟨m,hn,hl⟩:=I.loc;obtain ⟨u,r,l⟩:=hl i x v hN e hv;have fin:EP X pins σ Q u s:=⟨v,H,I,r,h⟩;rcases l with ⟨hk,hm⟩ | ⟨hk,c,hc,hcell⟩
 ·exact wpAny_Name (wpAny_loadName_local I.ok.kind hk hn hm fin) hd
 ·rcases hk with hk | hk
  ·exact wpAny_Name (wpAny_loadName_cell I.ok.kind hk hc hcell fin) hd
  ·exact wpAny_Name (wpAny_loadName_free I.ok.kind hk hc hcell fin hcd) hd
theorem ak:PE X (.Constant (.int i) j pos) (tC (.int i)):=λ_ _ _ H _ I h=>wpAny_Constant_int ⟨.int i,H,I.tok _,⟨_,rfl⟩,h⟩
theorem rY:PE X (.Constant (.bool b) j pos) (tC (.bl b)):=λ_ _ _ H _ I h=>Constant_bool ⟨.bl b,H,I,rfl,h⟩
theorem EK:PE X (.Constant .none j pos) (tC .non):=λ_ _ _ H _ I h=>Constant_none ⟨.non,H,I,rfl,h⟩
theorem AR:PE X (.Constant (.str x) j pos) (tC (.str x)):=λ_ _ _ H _ I h=>Calls.Constant_str ⟨.str x,H,I.tok _,⟨_,rfl⟩,h⟩
def Gl (X:Cx) (x:Str):Prop:=X.env.kindOf x=some .globalImplicit
theorem E6 {E:Value->Shared->Prop} {pins:List (Addr×Obj)} {s:Shared} {σ:St} {H:Hp} {x:Str} {u:Value} {pos:Pos} {Q:Value->Shared->Prop} (I:Inv X pins σ H s) (hg:Gl X x) (hm:X.mg x=some u) (h:Q u s)
  (hd:(x == ("__debug__":Str))=false:=by decide):wpAny (model X.prog X.w) X.A (eval (.Name x pos) X.env) Q E s :=
 Calls.Name_function_global I.ok.kind hg (Calls.loadGlobal_global (by rw[I.ok.glob];exact I.mod.glob.keeps I.bk) hm h) hd
theorem kZ {E:Value->Shared->Prop} {pins:List (Addr×Obj)} {s:Shared} {σ:St} {H:Hp} {x:Str} {u:Value} {pos:Pos} {Q:Value->Shared->Prop} (I:Inv X pins σ H s) (hg:Gl X x) (hm:X.mg x=none) (hv:bootBuiltins x=some u) (h:Q u s)
  (hn:x≠"__name__":=by decide) (hd:(x == ("__debug__":Str))=false:=by decide):wpAny (model X.prog X.w) X.A (eval (.Name x pos) X.env) Q E s:=by
 obtain ⟨mb,h1,h2⟩:=I.mod.blt;exact Calls.Name_function_global I.ok.kind hg (Calls.loadGlobal_builtin (by rw[I.ok.glob];exact I.mod.glob.keeps I.bk) hm (by rw[I.ok.blt];exact h1.keeps I.bk) ((h2 x hn).trans hv) h) hd
theorem lM {x:Str} {v:V} {u:Value} {pos:Pos} (hg:Gl X x) (hm:X.mg x=some u) (r:RelV v u) (hd:(x == ("__debug__":Str))=false:=by decide):PE X (.Name x pos) (tC v) :=
 λ_ _ _ H _ I h=>E6 I hg hm ⟨v,H,I,r,h⟩ hd
theorem KL {x:Str} {v:V} {u:Value} {pos:Pos} (hg:Gl X x) (hm:X.mg x=none) (hv:bootBuiltins x=some u) (r:RelV v u) (hn:x≠"__name__":=by decide) (hd:(x == ("__debug__":Str))=false:=by decide):PE X (.Name x pos) (tC v) :=
 λ_ _ _ H _ I h=>kZ I hg hm hv ⟨v,H,I,r,h⟩ hn hd
variable {a b:Expr} {ta tb:TE} {pos:Pos}
def tB (t:TE):TT:=λσ H Q=>t σ H λx H1=>∃c,x=.bl c/\Q c H1
theorem rT {e:Expr} {t:TE} (h:PE X e t) (he:∀whole,isTrue e X.env whole=(do let v <- whole;standAt e.pos;holding [v] (truthy v)):=by intro _;rfl):PT X e (tB t):=by
 intro pins s σ H Q I hw;refine isTrue_plain (iq (h pins s σ H _ I hw) λv s1 ⟨x,H1,I1,r1,q1⟩=>?_) (he _);obtain ⟨d,rfl,q⟩:=q1;cases r1;exact wpAny_truthy_bool ⟨H1,I1,q⟩
variable {tA tB':TT} {rest:List Expr}
def Uo (t u:TT):TT:=λσ H Q=>t σ H λc H1=>if c=true then u σ H1 Q else Q false H1
def tOr (t u:TT):TT:=λσ H Q=>t σ H λc H1=>if c=true then Q true H1 else u σ H1 Q
def Uj (t:TT):TT:=λσ H Q=>t σ H λc H1=>Q (!c) H1
theorem ky (ha:PT X a tA):PW X (.BoolOp .And [a] pos) tA:=by
 intro wh pins s σ H Q I h;refine isTrue_and (iq (ha pins s σ H Q I h) λc s1 e=>?_);cases c with
 | true=>exact isTrue_and_nil e
 | false=>exact e
theorem pH (ha:PT X a tA):PW X (.BoolOp .Or [a] pos) tA:=by
 intro wh pins s σ H Q I h;refine isTrue_or (iq (ha pins s σ H Q I h) λc s1 e=>?_);cases c with
 | false=>exact isTrue_or_nil e
 | true=>exact e
theorem jN (ha:PT X a tA) (hb:PW X (.BoolOp .And (b :: rest) pos) tB'):PW X (.BoolOp .And (a :: b :: rest) pos) (Uo tA tB'):=by
 intro wh pins s σ H Q I h;refine isTrue_and (iq (ha pins s σ H _ I h) λc s1 ⟨H1,I1,q1⟩=>?_);cases c with
 | true=>exact hb wh pins s1 σ H1 Q I1 q1
 | false=>exact ⟨H1,I1,q1⟩
theorem tZ (ha:PT X a tA) (hb:PW X (.BoolOp .Or (b :: rest) pos) tB'):PW X (.BoolOp .Or (a :: b :: rest) pos) (tOr tA tB'):=by
 intro wh pins s σ H Q I h;refine isTrue_or (iq (ha pins s σ H _ I h) λc s1 ⟨H1,I1,q1⟩=>?_);cases c with
 | true=>exact ⟨H1,I1,q1⟩
 | false=>exact hb wh pins s1 σ H1 Q I1 q1
theorem rV (ha:PT X a tA):PT X (.UnaryOp .Not a pos) (Uj tA):=by
 intro pins s σ H Q I h;exact isTrue_not (ha pins s σ H (λc H1=>Q (!c) H1) I h)
def Rh (ta tb:TE):TE:=λσ H Q=>ta σ H λx H1=>∃c,x=.bl c/\if c=true then tb σ H1 Q else Q (.bl false) H1
def Q7 (ta:TE):TE:=λσ H Q=>ta σ H λx H1=>∃c,x=.bl c/\Q (.bl (!c)) H1
theorem Js (h:PE X a t):PE X (.BoolOp op [a] pos) t:=λpins s σ H Q I hw=>BoolOp_one (h pins s σ H Q I hw)
theorem Jt (ha:PE X a ta) (hb:PE X (.BoolOp .And (b :: rest) pos) tb):PE X (.BoolOp .And (a :: b :: rest) pos) (Rh ta tb):=by
 intro pins s σ H Q I h;refine BoolOp_and (iq (ha pins s σ H _ I h) λv s1 ⟨x,H1,I1,r1,q1⟩=>?_);obtain ⟨c,rfl,q1⟩:=q1;cases r1;refine wpAny_truthy_bool ?_;cases c with
 | true=>exact hb pins s1 σ H1 Q I1 q1
 | false=>exact ⟨.bl false,H1,I1,rfl,q1⟩
theorem S8 (ha:PE X a ta):PE X (.UnaryOp .Not a pos) (Q7 ta):=by
 intro pins s σ H Q I h;refine UnaryOp_ (iq (ha pins s σ H _ I h) λv s1 ⟨x,H1,I1,r1,q1⟩=>?_);obtain ⟨c,rfl,q1⟩:=q1;cases r1;exact not_of (wpAny_truthy_bool ⟨.bl (!c),H1,I1,rfl,q1⟩)
def tIf (t:TT) (ta tb:TE):TE:=λσ H Q=>t σ H λc H1=>if c=true then ta σ H1 Q else tb σ H1 Q
theorem NT (hc:PT X c tA) (ha:PE X a ta) (hb:PE X b tb):PE X (.IfExp c a b pos) (tIf tA ta tb):=by
 intro pins s σ H Q I h;refine wpAny_IfExp (iq (hc pins s σ H _ I h) λd s1 ⟨H1,I1,q1⟩=>?_);cases d with
 | true=>exact ha pins s1 σ H1 Q I1 q1
 | false=>exact hb pins s1 σ H1 Q I1 q1
end
def bF (K:FG9) (H:Hp) (a:Addr) (xs:List V):Prop :=
 Rd H a (.lst xs) \/
  ∃(o:Obj) (its:Array Value) (n:Nat),K.lookup a=some o/\o.cls=.type "list"/\o.dict=none/\o.data=.seq its n/\its.size<=sizeLine/\c5 xs its.toList
def uQ (K:FG9) (H:Hp) (a:Addr) (xs:List V):Prop :=
 Rd H a (.tup xs) \/
  ∃(o:Obj) (its:Array Value) (n:Nat),K.lookup a=some o/\o.cls=.type "tuple"/\o.data=.seq its n/\its.size<=sizeLine/\c5 xs its.toList
def VU:Value->Option V
 | .none=>some .non
 | .bool b=>some (.bl b)
 | .int i _=>some (.int i)
 | .str x _=>some (.str x)
 | .bytes b _=>some (.byt b)
 | .float b _=>some (.flt b)
 | .ref a=>some (.ref a)
 | .type n=>some (.ty n)
 | _=>none
theorem RelV.abs (r:RelV x u):VU u=some x:=by
 cases x with
 | non=>cases r;rfl
 | bl _=>cases r;rfl
 | int _=>obtain ⟨t,rfl⟩:=r;rfl
 | str _=>obtain ⟨t,rfl⟩:=r;rfl
 | byt _=>obtain ⟨t,rfl⟩:=r;rfl
 | flt _=>obtain ⟨t,rfl⟩:=r;rfl
 | ref _=>cases r;rfl
 | ty _=>cases r;rfl
theorem RelV.inj (r:RelV x u) (q:RelV y u):x=y:=cv (r.abs.symm.trans q.abs)
theorem c5.inj:∀{xs ys:List V} {us:List Value},c5 xs us->c5 ys us->xs=ys
 | _,_,_,.nil,.nil=>rfl
 | _,_,_,.cons r t,.cons r' t'=>by rw[r.inj r',c5.inj t t']
section
variable {X:Cx} {pins:List (Addr×Obj)} {σ:St} {H:Hp} {s:Shared} {a:Addr} {xs ys:List V}
theorem bF.of {K:FG9} (h:H a=some (.lst xs)):bF K H a xs:=.inl (.inl h)
theorem uQ.of {K:FG9} (h:H a=some (.tup xs)):uQ K H a xs:=.inl (.inl h)
theorem Inv.list (I:Inv X pins σ H s) (h:bF X.K H a xs):∃its:List Value,c5 xs its/\PlainL s.heap a its.toArray/\xs.length<=sizeLine:=by
 rcases h with h | ⟨o,its,n,hk,hc,hd,hs,hz,r⟩
 ·obtain ⟨z,its,n,r,e⟩:=h.ok I.hok;exact ⟨its,r,⟨_,n,e,rfl,rfl,rfl⟩,z⟩
 ·refine ⟨its.toList,r,⟨o,n,I.kIn a o hk,hc,hd,by simpa using hs⟩,?_⟩;have e:=r.length;simp only[Array.length_toList] at e
  lia
theorem Inv.tuple (I:Inv X pins σ H s) (h:uQ X.K H a xs):∃its:List Value,c5 xs its/\IsTup s.heap a its.toArray/\xs.length<=sizeLine:=by
 rcases h with h | ⟨o,its,n,hk,hc,hs,hz,r⟩
 ·obtain ⟨z,its,r,p⟩:=h.ok I.hok;exact ⟨its,r,p,z⟩
 ·refine ⟨its.toList,r,⟨o,I.kIn a o hk,hc,n,by simpa using hs⟩,?_⟩;have e:=r.length;simp only[Array.length_toList] at e
  lia
theorem Inv.list_inj (I:Inv X pins σ H s) (h:bF X.K H a xs) (h':bF X.K H a ys):xs=ys:=by
 obtain ⟨its,r,⟨o,n,e,_,_,d⟩,_⟩:=I.list h;obtain ⟨its',r',⟨o',n',e',_,_,d'⟩,_⟩:=I.list h';rw[e] at e';cases e';rw[d] at d';injection d' with d1 _
 have:its=its':=by simpa using congrArg Array.toList d1
 subst this;exact r.inj r'
theorem Inv.tuple_inj (I:Inv X pins σ H s) (h:uQ X.K H a xs) (h':uQ X.K H a ys):xs=ys:=by
 obtain ⟨its,r,⟨o,e,_,n,d⟩,_⟩:=I.tuple h;obtain ⟨its',r',⟨o',e',_,n',d'⟩,_⟩:=I.tuple h';rw[e] at e';cases e';rw[d] at d';injection d' with d1 _
 have:its=its':=by simpa using congrArg Array.toList d1
 subst this;exact r.inj r'
end
abbrev Cx.wish (X:Cx) (E:Value->Shared->Prop):Cx:={ X with xe:=E }
abbrev Cx.nox (X:Cx):Cx:=X.wish λ_ _=>False
theorem Cx.Ok.wish {X:Cx} (ok:X.Ok) (E:Value->Shared->Prop):(X.wish E).Ok :=
 ⟨ok.mod,ok.kind,ok.glob,ok.blt,ok.above,ok.inj,ok.has,ok.cab,ok.hd,ok.frames,ok.stk,ok.exf,ok.bs,ok.bsz,ok.noex,ok.exfs,ok.funs,ok.frf⟩
theorem Cx.Ok.unwish {X:Cx} (ok:(X.wish E).Ok):X.Ok :=
 ⟨ok.mod,ok.kind,ok.glob,ok.blt,ok.above,ok.inj,ok.has,ok.cab,ok.hd,ok.frames,ok.stk,ok.exf,ok.bs,ok.bsz,ok.noex,ok.exfs,ok.funs,ok.frf⟩
section
variable {X:Cx} {pins:List (Addr×Obj)} {σ:St} {H:Hp} {s:Shared} {E:Value->Shared->Prop}
theorem Inv.wish (I:Inv X pins σ H s) (E:Value->Shared->Prop):Inv (X.wish E) pins σ H s:=⟨I.ok.wish E,I.os,I.bare,I.base,I.loc,I.cell,I.free,I.freeC,I.pin,I.hok,I.len⟩
theorem Inv.unwish (I:Inv (X.wish E) pins σ H s):Inv X pins σ H s:=⟨I.ok.unwish,I.os,I.bare,I.base,I.loc,I.cell,I.free,I.freeC,I.pin,I.hok,I.len⟩
theorem SP.unwish (h:SP (X.wish E) pins D f s'):SP X pins D f s':=by
 cases f with
 | next=>obtain ⟨σ',H',I,q⟩:=h;exact ⟨σ',H',I.unwish,q⟩
 | brk=>obtain ⟨σ',H',I,q⟩:=h;exact ⟨σ',H',I.unwish,q⟩
 | cont=>obtain ⟨σ',H',I,q⟩:=h;exact ⟨σ',H',I.unwish,q⟩
 | ret u=>obtain ⟨v,σ',H',I,r,q⟩:=h;exact ⟨v,σ',H',I.unwish,r,q⟩
theorem JY.nox {st:List Stmt} (h:JY X.nox st t):JY X st t:=λpins s σ H D I hw =>
 wpAny_mono (h pins s σ H D (I.wish _) hw) (λ_ _ q=>q.unwish) λ_ _ z=>False.elim z
end
section
variable {X:Cx} {st:Stmt} {rest:List Stmt} {t u:TS} {e:Expr} {te:TE} {pos:Pos}
def Q8:TS:=λD σ H=>D.nx σ H
def Ue (t u:TS):TS:=λD σ H=>t { D with nx:=u D } σ H
theorem b8:JY X [] Q8:=λ_ _ σ H _ I h=>wpAny_execs_nil ⟨σ,H,I,h⟩
theorem ar (h1:PS X st t) (h2:JY X rest u):JY X (st :: rest) (Ue t u):=by
 intro pins s σ H D I h;refine wpAny_execs_cons (iq (h1 pins s σ H { D with nx:=u D } I h) λf s1 q=>?_);cases f with
 | next =>
  obtain ⟨σ',H',I',q⟩:=q;exact h2 pins s1 σ' H' D I' q
 | ret v=>exact q
 | brk=>exact q
 | cont=>exact q
theorem aA (h1:PS X st t):JY X [st] t:=by
 intro pins s σ H D I h;refine wpAny_execs_cons (iq (h1 pins s σ H D I h) λf s1 q=>?_);cases f with
 | next=>exact wpAny_execs_nil q
 | ret v=>exact q
 | brk=>exact q
 | cont=>exact q
theorem Inv.quiet {σ:St} (I:Inv X pins σ H s):interactive X.env=false:=by simp [interactive,I.ok.kind]
def Rb (te:TE):TS:=λD σ H=>te σ H λ_ H1=>D.nx σ H1
theorem ic (he:PE X e te) (hs:swapsWith e none pos.line X.env=pure false:=by rfl):PS X (.Expr e pos) (Rb te):=by
 intro pins s σ H D I h;exact wpAny_Expr_any (iq (he pins s σ H _ I h) λv s1 ⟨x,H1,I1,r1,q1⟩=>⟨σ,H1,I1,q1⟩) I.quiet hs
def Ug (te:TE):TS:=λD σ H=>te σ H D.rt
theorem aV (he:PE X e te):PS X (.Return (some e) pos) (Ug te):=by
 intro pins s σ H D I h;exact wpAny_Return_some (iq (he pins s σ H _ I h) λv s1 ⟨x,H1,I1,r1,q1⟩=>⟨x,σ,H1,I1,r1,q1⟩)
def Ul (c:TT) (t u:TS):TS:=λD σ H=>c σ H λb H1=>if b=true then t D σ H1 else u D σ H1
theorem dh (hc:PT X c tc) (ha:JY X a t) (hb:JY X b u):PS X (.If c a b pos) (Ul tc t u):=by
 intro pins s σ H D I h;refine wpAny_If (iq (hc pins s σ H _ I h) λd s1 ⟨H1,I1,q1⟩=>?_);cases d with
 | true=>exact ha pins s1 σ H1 D I1 q1
 | false=>exact hb pins s1 σ H1 D I1 q1
end
abbrev TG:=V->St->Hp->(St->Hp->Prop)->Prop
abbrev O8:=List V->St->Hp->(St->Hp->Prop)->Prop
def PG (X:Cx) (target:Expr) (t:TG):Prop :=
 ∀(pins:List (Addr×Obj)) (s:Shared) (σ:St) (H:Hp) (v:V) (u:Value) (Q:St->Hp->Prop),Inv X pins σ H s->RelV v u->t v σ H Q →
  wpAny (model X.prog X.w) X.A (assign target X.env u) (λ_ s'=>∃σ' H',Inv X pins σ' H' s'/\Q σ' H') X.xe s
def Vi (X:Cx) (ts:List Expr) (t:O8):Prop :=
 ∀(pins:List (Addr×Obj)) (s:Shared) (σ:St) (H:Hp) (vs:List V) (us:List Value) (Q:St->Hp->Prop),Inv X pins σ H s->c5 vs us->t vs σ H Q →
  wpAny (model X.prog X.w) X.A (assignInOrder ((assignEach ts X.env).map (·.2)) us) (λ_ s'=>∃σ' H',Inv X pins σ' H' s'/\Q σ' H') X.xe s
abbrev JV:=V->V->V->Hp->(Hp->Prop)->Prop
def TM (X:Cx) (t:JV):Prop :=
 ∀(pins:List (Addr×Obj)) (s:Shared) (σ:St) (H:Hp) (o i v:V) (ov iv u:Value) (Q:Hp->Prop),Inv X pins σ H s->RelV o ov->RelV i iv->RelV v u->t o i v H Q →
  wpAny (model X.prog X.w) X.A (setItem ov iv u) (λ_ s'=>∃H',Inv X pins σ H' s'/\Q H') X.xe s
abbrev Vg:=V->V->Hp->VK->Prop
def PIp (X:Cx) (op:Operator) (t:Vg):Prop :=
 ∀(pins:List (Addr×Obj)) (s:Shared) (σ:St) (H:Hp) (x y:V) (v u:Value) (Q:VK),Inv X pins σ H s->RelV x v->RelV y u->t x y H Q →
  wpAny (model X.prog X.w) X.A (inplaceOp op v u) (EP X pins σ Q) X.xe s
section
variable {X:Cx} {pos:Pos}
def K5 (i:Nat):TG:=λv σ H Q=>Q (σ.set i (some v)) H
theorem aO {i:Nat} {x:Str} (hN:X.N.Nodup) (hi:X.N[i]?=some x:=by exact rfl) (hx:Loc X.env.scope x:=by exact Or.inl rfl) (hf:X.fn x=true\/X.env.scope.names.lookup x=some .local:=by first | exact .inl rfl | exact .inr rfl | assumption):PG X (.Name x pos) (K5 i):=by
 intro pins s σ H v u Q I r h;exact wpAny_assign_Name (vQ I hN hi hx r (λs' I'=>⟨_,H,I',h⟩) hf)
def Va:O8:=λvs σ H Q=>vs=[]/\Q σ H
def RH (t:TG) (u:O8):O8:=λvs σ H Q=>∃v r,vs=v :: r/\t v σ H λσ' H'=>u r σ' H' Q
theorem fL:Vi X [] Va:=by
 intro pins s σ H vs us Q I r h;obtain ⟨e,h⟩:=h;subst e;cases r;exact assignInOrder_nil ⟨σ,H,I,h⟩
theorem b9 {e:Expr} {es:List Expr} {t:TG} {u:O8} (h1:PG X e t) (h2:Vi X es u)
  (hs:(assignEach (e :: es) X.env).map (·.2)=assign e X.env :: (assignEach es X.env).map (·.2):=by rfl):Vi X (e :: es) (RH t u):=by
 intro pins s σ H vs us Q I r h;obtain ⟨v,vr,e1,h⟩:=h;subst e1;cases r with
 | cons r rr =>
  rw[hs];refine assignInOrder_cons (iq (h1 pins s σ H _ _ _ I r h) λ_ s1 ⟨σ1,H1,I1,q1⟩=>?_);exact h2 pins s1 σ1 H1 _ _ Q I1 rr q1
def Tw (K:FG9) (n:Nat) (t:O8):TG:=λv σ H Q=>∃a xs,v=.ref a/\uQ K H a xs/\xs.length=n/\t xs σ H Q
theorem rX {es:List Expr} {k:Nat} {t:O8} {n:Nat} (hc:X.calm=true) (h:Vi X es t)
  (hn:(assignEach es X.env).length=n:=by rfl) (hst:(assignEach es X.env).findIdx? (·.1)=none:=by rfl):PG X (.Tuple es k pos) (Tw X.K n t):=by
 intro pins s σ H v u Q I r hw;obtain ⟨a,xs,e1,hq,hl,hw⟩:=hw;subst e1;cases r;obtain ⟨its,rv,ht,hz⟩:=I.tuple hq;refine assign_Tuple_tuple (I.ok.hd hc) ht (by simp [hn,<- hl,rv.length]) hst λh' hx=>?_
 have I1:Inv X pins σ H { s with heap:=h' }:=I.kept (t':=s.toks) λb o e=>hx b o (cV (Heap.lt_size e)) e
 exact h pins _ σ H xs _ Q I1 (by simpa using rv) hw
def U4 (to ti:TE) (t:JV):TG:=λv σ H Q=>to σ H λo H1=>ti σ H1 λi H2=>t o i v H2 λH3=>Q σ H3
theorem gP {o i : Expr} {to ti : TE} {t : JV} (ho : PE X o to) (hi : PE X i ti) (hs : TM X t)
    (ha : ∀ v, assign (.Subscript o i pos) X.env v = (do
      let ov <- holding [v] (eval o X.env)
      let iv <- holding [v, ov] (eval i X.env)
      standAt pos
      holding [v, ov, iv] (setItem ov iv v)
      release [v, ov, iv] []) := by intro _; rfl) : PG X (.Subscript o i pos) (U4 to ti t) := by
  intro pins s σ H v u Q I r h;rw [ha];refine wpAny_bind (wpAny_holding (iq (ho pins s σ H _ I h) λov s1 ⟨x, H1, I1, r1, q1⟩ => ?_));refine wpAny_bind (wpAny_holding (iq (hi pins s1 σ H1 _ I1 q1) λiv s2 ⟨y, H2, I2, r2, q2⟩ => ?_));refine wpAny_bind (wpAny_standAt (wpAny_bind (wpAny_holding (iq (hs pins s2 σ H2 x y v ov iv u _ I2 r1 r2 r q2) λ_ s3 ⟨H3, I3, q3⟩ => ?_))));exact wpAny_release ⟨σ, H3, I3, q3⟩
def Pj (te:TE) (g:TG):TS:=λD σ H=>te σ H λx H1=>g x σ H1 D.nx
theorem fB {tg e:Expr} {te:TE} {g:TG} (he:PE X e te) (hg:PG X tg g) (hs:swapsWithSole [tg] e pos.line X.env=pure false:=by rfl) (hw:swappedStores [tg] e X.env=pure none:=by rfl)
  (h1:(assignEach [tg] X.env).map (·.2)=[assign tg X.env]:=by rfl):PS X (.Assign [tg] e pos) (Pj te g):=by
 intro pins s σ H D I h;refine wpAny_Assign_stores (iq (he pins s σ H _ I h) λv s1 ⟨x,H1,I1,r1,q1⟩=>?_) hs hw;rw[h1];exact iq (hg pins s1 σ H1 x v _ I1 r1 q1) λ_ s2 q=>q
theorem aS {i:Nat} {x:Str} {e:Expr} {te:TE} {pos':Pos} (hN:X.N.Nodup) (hi:X.N[i]?=some x) (hx:Loc X.env.scope x) (he:PE X e te) (hs:swapsWith e (some (.Name x pos')) pos.line X.env=pure false:=by rfl) (hf:X.fn x=true\/X.env.scope.names.lookup x=some .local:=by first | exact .inl rfl | exact .inr rfl | assumption) :
  PS X (.Assign [.Name x pos'] e pos) (Pj te (K5 i)):=by
 intro pins s σ H D I h;refine wpAny_Assign_Name (iq (he pins s σ H _ I h) λv s1 ⟨y,H1,I1,r1,q1⟩=>?_) hs;exact vQ I1 hN hi hx r1 (λs2 I2=>⟨_,H1,I2,q1⟩) hf
def Uh (i j:Nat) (ta:TA):TS:=λD σ H=>ta σ H λvs H1=>∃v w,vs=[v,w]/\D.nx ((σ.set i (some v)).set j (some w)) H1
theorem NL {i j:Nat} {x y:Str} {a b:Expr} {ta:TA} {px py pt:Pos} {kt k2 pt2} (hc:X.calm=true) (hN:X.N.Nodup) (hi:X.N[i]?=some x) (hj:X.N[j]?=some y) (hij:i≠j)
  (hx:X.env.scope.names.lookup x=some .local) (hy:X.env.scope.names.lookup y=some .local) (ha:PA X [a,b] ta)
  (hw:swappedStores [.Tuple [.Name x px,.Name y py] kt pt] (.Tuple [a,b] k2 pt2) X.env=pure (some [x,y]))
  (hs:swapsWithSole [.Tuple [.Name x px,.Name y py] kt pt] (.Tuple [a,b] k2 pt2) pos.line X.env=pure false:=by rfl) :
  PS X (.Assign [.Tuple [.Name x px,.Name y py] kt pt] (.Tuple [a,b] k2 pt2) pos) (Uh i j ta):=by
 intro pins s σ H D I h;rw[exec_Assign_arm];refine wpAny_bind (wpAny_standAt ?_);rw[hs];refine wpAny_bind (wpAny_pure ?_);rw[if_neg (by decide)];refine wpAny_bind (Tuple_ (iq (ha _ pins s σ H _ I h) λus s1 ⟨vs,H1,I1,r1,q1⟩=>?_));obtain ⟨v,w,e1,q1⟩:=q1;subst e1
 obtain ⟨u1,u2,rfl,rv,rw'⟩:∃u1 u2,us=[u1,u2]/\RelV v u1/\RelV w u2:=by
  cases r1 with
  | cons p q =>
   cases q with
   | cons p' q' =>
    cases q';exact ⟨_,_,rfl,p,p'⟩
 refine wpAny_newObj_type ?_ (by show 2<=sizeLine;decide);have I2:Inv X pins σ H1 { s1 with heap:=s1.heap.push { cls:=.type "tuple",data:=.seq [u1,u2].toArray } }:=I1.kept (t':=s1.toks) λb o e=>Heap.get?_push_of_some _ e
 rw[hw];refine wpAny_bind (wpAny_pure ?_);show wpAny (model X.prog X.w) X.A (do rule "assign.swapped-stores";let items <- unpackItems (.ref s1.heap.objs.size) 2 none;assignInOrder [λv=>bindName X.env y v,λv=>bindName X.env x v] items.reverse;pure Flow.next) _ _ _
 refine wpAny_bind (wpAny_rule (wpAny_bind (unpackItems_tuple (items:=#[u1,u2]) (I.ok.hd hc) (IsTup.new s1.heap _) λh' hx'=>?_)));have I3:=I2.kept (h':=h') (t':=s1.toks) λb o e=>hx' b o (cV (Heap.lt_size e)) e
 show wpAny _ _ (assignInOrder [λv=>bindName X.env y v,λv=>bindName X.env x v] [u2,u1] >>= λ_=>pure Flow.next) _ _ _
 refine wpAny_bind (assignInOrder_cons (wpAny_bindName (vQ I3 hN hj (.inl hy) rw' (λs2 I4=>?_) (.inr hy))));refine assignInOrder_cons (wpAny_bindName (vQ I4 hN hi (.inl hx) rv (λs3 I5=>assignInOrder_nil (wpAny_pure ?_)) (.inr hx)));rw[List.set_comm _ _ (Ne.symm hij)] at I5;exact ⟨_,H1,I5,q1⟩
def Rf (to ti te:TE) (tget:V->V->Hp->VK->Prop) (tip:Vg) (tset:JV):TS:=λD σ H=>to σ H λo H1=>ti σ H1 λi H2=>tget o i H2 λx H3=>te σ H3 λy H4=>tip x y H4 λz H5=>tset o i z H5 λH6=>D.nx σ H6
def Vj (X:Cx) (t:V->V->Hp->VK->Prop):Prop :=
 ∀(pins:List (Addr×Obj)) (s:Shared) (σ:St) (H:Hp) (o i:V) (ov iv:Value) (Q:VK),Inv X pins σ H s->RelV o ov->RelV i iv->t o i H Q →
  wpAny (model X.prog X.w) X.A (getItem ov iv) (EP X pins σ Q) X.xe s
theorem Qj {o i e:Expr} {to ti te:TE} {tget:V->V->Hp->VK->Prop} {tip:Vg} {tset:JV} {op:Operator} {tpos:Pos} (ho:PE X o to) (hi:PE X i ti) (hg:Vj X tget) (he:PE X e te) (hp:PIp X op tip) (hs:TM X tset)
  (ha:∀ov iv new,augStore i ov iv new=(do holding [new,ov,iv] (setItem ov iv new);release [new,ov,iv] [];pure .next):=by intros;rfl):PS X (.AugAssign (.Subscript o i tpos) op e pos) (Rf to ti te tget tip tset):=by
 intro pins s σ H D I h;refine wpAny_AugAssign_SubscriptAny (iq (ho pins s σ H _ I h) λov s1 ⟨x1,H1,I1,r1,q1⟩=>?_) ha;refine iq (hi pins s1 σ H1 _ I1 q1) λiv s2 ⟨x2,H2,I2,r2,q2⟩=>?_
 refine iq (hg pins s2 σ H2 x1 x2 ov iv _ I2 r1 r2 q2) λold s3 ⟨x3,H3,I3,r3,q3⟩=>?_
 refine iq (he pins s3 σ H3 _ I3 q3) λv s4 ⟨x4,H4,I4,r4,q4⟩=>?_
 refine iq (hp pins s4 σ H4 x3 x4 old v _ I4 r3 r4 q4) λnew s5 ⟨x5,H5,I5,r5,q5⟩=>?_
 exact iq (hs pins s5 σ H5 x1 x2 x5 ov iv new _ I5 r1 r2 r5 q5) λ_ s6 ⟨H6,I6,q6⟩=>⟨σ,H6,I6,q6⟩
def ipI (f:Int->Int->Int):Vg:=λx y H Q=>∃i j,x=.int i/\y=.int j/\Q (.int (f i j)) H
theorem Tr:PIp X .Add (ipI λi j=>i+j):=by
 intro pins s σ H x y v u Q I r1 r2 h;obtain ⟨i,j,e1,e2,q⟩:=h;subst e1;subst e2;obtain ⟨t,rfl⟩:=r1;obtain ⟨t',rfl⟩:=r2;exact iadd_int ⟨.int _,H,I.tok _,⟨_,rfl⟩,q⟩
end
section
variable {X:Cx} {pos:Pos}
def Na (c:TT) (tb:TS):TS:=λD σ H=>∃W:Nat->St->Hp->Prop,(∃m,W m σ H)/\∀m σ H,W m σ H →
 c σ H λb H1=>if b=true then ∃N:St->Hp->Prop,(∀σ' H',N σ' H'->∃m',m' < m/\W m' σ' H')/\tb { D with nx:=N,ct:=N,bk:=D.nx } σ H1 else D.nx σ H1
theorem AM (hp:PassesOwn (model X.prog X.w) X.A X.env X.xe) (hc:PT X c tc) (hb:JY X body tb):PS X (.While c body [] pos) (Na tc tb):=by
 intro pins s σ H D I h;obtain ⟨W,⟨m0,w0⟩,turn⟩:=h;refine wpAny_While (codeAny_whileLoop (λn s'=>∃σ' H',Inv X pins σ' H' s'/\W n σ' H') ?_ m0 ⟨σ,H,I,w0⟩);rintro n s1 ⟨σ1,H1,I1,w1⟩;refine wpAny_passesOwn hp (iq (hc pins s1 σ1 H1 _ I1 (turn n σ1 H1 w1)) λb s2 ⟨H2,I2,q2⟩=>?_);cases b with
 | true =>
  obtain ⟨N,hN,q2⟩:=q2;rw[if_pos rfl];refine wpAny_passesOwn hp (iq (hb pins s2 σ1 H2 _ I2 q2) λf s3 q3=>?_);cases f with
  | next =>
   obtain ⟨σ3,H3,I3,n3⟩:=q3;obtain ⟨m',hm,w3⟩:=hN σ3 H3 n3;exact ⟨m',hm,σ3,H3,I3,w3⟩
  | cont =>
   obtain ⟨σ3,H3,I3,n3⟩:=q3;obtain ⟨m',hm,w3⟩:=hN σ3 H3 n3;exact ⟨m',hm,σ3,H3,I3,w3⟩
  | brk=>exact q3
  | ret v=>exact q3
 | false =>
  rw[if_neg bf];exact wpAny_execs_nil ⟨σ1,H2,I2,q2⟩
end
structure It where
 go:Nat->Hp->Prop
 yld:Nat->Hp->V->Hp->Prop
 stop:Nat->Hp->Prop
def kx (X:Cx) (pins:List (Addr×Obj)) (H:Hp) (b:Addr):Prop :=
 H b=none/\b≠X.env.locals/\b∉X.fs/\(b∈X.ex\/X.s₀.heap.objs.size<=b)/\(∀x c,X.env.cells.lookup x=some c->c≠b)/\∀p∈X.pn++pins,p.1≠b
theorem Inv.fpOk {σ:St} {b:Addr} (I:Inv X pins σ H s) (hb:s.heap.objs.size<=b) (hn:H' b=none):kx X pins H' b:=by
 refine ⟨hn,LB (bx I.lt hb),I.nofs hb,.inr (ag I.sz hb),λx c e z=>?_,λp hp z=>?_⟩
 ·obtain ⟨v,q⟩:=I.cell x c e;exact absurd (bx q.lt (by rw[z];exact hb)) (fG _)
 ·exact absurd (bx (Heap.lt_size (I.pin p hp).1) (by rw[z];exact hb)) (fG _)
structure Turn (P:Program) (w:World) (K:FG9) (tg:Expr) (J:It) (fp:List Addr) (it:Addr) (tn:Nat->Heap->Prop):Prop where
 mem:it∈fp
 obj:∀i h,tn i h->∀b∈fp,∃o,h.get? b=some o/\∀v,o.data≠.cell v
 keep:∀i h h',tn i h->(∀b∈fp,∀o,h.get? b=some o->h'.get? b=some o)->tn i h'
 item:∀(X:Cx),X.prog=P->X.w=w->X.K=K->X.calm=true->∀(i:Nat) (pins:List (Addr×Obj)) (s:Shared) (σ:St) (H:Hp) (E:Value->Shared->Prop),Inv X pins σ H s->(∀b∈fp,kx X pins H b)->tn i s.heap->J.go i H →
  wpAny (model P w) X.A (pyNext (.ref it)) (λr s1=>∃u,r=some u /\
   wpAny (model P w) X.A (letOwnedTupleGo tg (.ref it) u) (λ_ s2=>∃x H',Inv X pins σ H' s2/\RelV x u/\J.yld i H x H'/\tn (i+1) s2.heap/\∀b∈fp,H' b=none) E s1) E s
 done:∀(X:Cx),X.prog=P->X.w=w->X.K=K->X.calm=true->∀(i:Nat) (pins:List (Addr×Obj)) (s:Shared) (σ:St) (H:Hp) (E:Value->Shared->Prop),Inv X pins σ H s->(∀b∈fp,kx X pins H b)->tn i s.heap->J.stop i H →
  wpAny (model P w) X.A (pyNext (.ref it)) (λr s1=>r=none/\Inv X pins σ H s1) E s
 self:∀(A:Around) (i:Nat) (s:Shared) (Q:Value->Shared->Prop) (E:Value->Shared->Prop),tn i s.heap->Q (.ref it) s->wpAny (model P w) A (pyIter (.ref it)) Q E s
abbrev TI:=St->Hp->(It->Hp->Prop)->Prop
def PIE (X:Cx) (pins:List (Addr×Obj)) (σ:St) (tg:Expr) (R:It->Hp->Prop) (itv:Value) (s2:Shared):Prop :=
 ∃(it:Addr) (fp:List Addr) (tn:Nat->Heap->Prop) (J:It) (H':Hp),itv=.ref it/\Inv X pins σ H' s2/\Turn X.prog X.w X.K tg J fp it tn/\tn 0 s2.heap/\(∀b∈fp,kx X pins H' b)/\R J H'
def PI (X:Cx) (tg iter:Expr) (wi:TI):Prop :=
 ∀(pins:List (Addr×Obj)) (s:Shared) (σ:St) (H:Hp) (R:It->Hp->Prop),Inv X pins σ H s->wi σ H R →
  wpAny (model X.prog X.w) X.A (eval iter X.env) (λv s1=>wpAny (model X.prog X.w) X.A (pyIter v) (PIE X pins σ tg R) X.xe s1) X.xe s
theorem Ov (ho:s.heap.get? it=some o) (hc:o.cls=.type n) (hd:o.data=.fields vs)
  (hn:["enumerate","zip","dict_itemiterator","dict_reverseitemiterator","odict_iterator","itertools.zip_longest","itertools.pairwise"].contains n=false) (hQ:Q () s):wpAny M A (letOwnedTupleGo tg (.ref it) u) Q E s:=by
 unfold letOwnedTupleGo
 cases tg <;> first
  | exact wpAny_pure hQ
  | (cases u <;> first | exact wpAny_pure hQ | (refine wpAny_bind (wpAny_load ho ?_);rw[hc,hd];show wpAny M A (if (["enumerate","zip","dict_itemiterator","dict_reverseitemiterator","odict_iterator","itertools.zip_longest","itertools.pairwise"].contains n && vs[0]? == some (rawInt _))=true then _ else _) Q E s;rw[if_neg (by intro h;rw[hn,Bool.false_and] at h;cases h)];exact wpAny_pure hQ))
def QY (K:FG9) (a:Addr):It :=
 ⟨λi H=>∃xs x,bF K H a xs/\xs[i]?=some x,λi H x H'=>H'=H/\∀xs,bF K H a xs->xs[i]?=some x,λi H=>∃xs,bF K H a xs/\xs.length<=i⟩
def IP (lo:Int) (n:Nat):It:=⟨λi _=>i < n,λi H x H'=>H'=H/\x=.int (lo+i),λi _=>n<=i⟩
theorem LH {P:Program} {w:World} {K:FG9} {tg:Expr} (a it:Addr):Turn P w K tg (QY K a) [it] it (λi h=>h.IsListIter it a i) where
 mem:=by simp
 obj:=λi h st b hb=>by
  have e:b=it:=by simpa using hb
  subst e;obtain ⟨o,e,c,d⟩:=st;exact ⟨o,e,λv z=>by rw[d] at z;cases z⟩
 keep:=λi h h' st k=>st.at λo e=>k it (by simp) o e
 item:=by
  intro X hP hw hK hc i pins s σ H E I hf st hg;subst hP hw hK;obtain ⟨xs,x,hq,hx⟩:=hg;obtain ⟨its,rv,p,hz⟩:=I.list hq;obtain ⟨u,hu,ru⟩:=rv.get hx;obtain ⟨f0,f1,f2,f3,f4,f5⟩:=hf it (by simp);refine wpAny_pyNext_list_item st p.isList (x:=u) (by simpa using hu) λh' st' sb=>?_
  have I1:Inv X pins σ H { s with heap:=h' }:=I.turned (t':=s.toks) (λb o hb e=>(sb.2 b hb).trans e) f0 f1 f3 f4 f5;obtain ⟨o,e,c,d⟩:=id st';exact ⟨u,rfl,Ov (s:={ s with heap:=h' }) e c d (by decide) ⟨x,H,I1,ru,⟨rfl,λys hy=>by rw[I.list_inj hy hq];exact hx⟩,st',λb hb=>(hf b hb).1⟩⟩
 done:=by
  intro X hP hw hK hc i pins s σ H E I hf st hg;subst hP hw hK;obtain ⟨xs,hq,hx⟩:=hg;obtain ⟨its,rv,p,hz⟩:=I.list hq;obtain ⟨f0,f1,f2,f3,f4,f5⟩:=hf it (by simp);have hl:=rv.length;exact wpAny_pyNext_list_end (I.ok.hd hc) st p.isList (by simp;lia) λh' eb=>⟨rfl,I.turned (t':=s.toks) (λb o hb e=>eb b o hb e) f0 f1 f3 f4 f5⟩
 self:=λ_ _ _ _ _ st h=>wpAny_pyIter_listiter st h
theorem IX {P:Program} {w:World} {K:FG9} {tg:Expr} (it:Addr) (lo:Int) (n:Nat):Turn P w K tg (IP lo n) [it] it (λi h=>IsRangeIter h it (lo+(i:Nat)*1) ((n:Int) - (i:Nat)) 1) where
 mem:=by simp
 obj:=λi h st b hb=>by
  have e:b=it:=by simpa using hb
  subst e
  exact ⟨_,st,λv z=>by
   have z':Data.fields _=Data.cell v:=z;cases z'⟩
 keep:=λi h h' st k=>k it (by simp) _ st
 item:=by
  intro X hP hw hK hc i pins s σ H E I hf st hg;subst hP hw hK;obtain ⟨f0,f1,f2,f3,f4,f5⟩:=hf it (by simp);have W:=Walks.range (prog:=X.prog) (w:=X.w) (I.ok.hd hc) it lo 1 n;refine W.item i s _ _ hg st λv h' tk hv st' kk=>?_
  obtain ⟨t,rfl⟩:=hv;have I1:Inv X pins σ H { s with heap:=h',toks:=tk }:=I.turned (λb o hb e=>kk b o (by simpa using hb) e) f0 f1 f3 f4 f5;refine ⟨_,rfl,Ov (s:={ s with heap:=h',toks:=tk }) (n:="range_iterator") st' rfl rfl (by decide) ⟨.int (lo+i),H,I1,⟨t,?_⟩,⟨rfl,rfl⟩,st',λb hb=>(hf b hb).1⟩⟩;rw[Int.mul_one]
 done:=by
  intro X hP hw hK hc i pins s σ H E I hf st hg;subst hP hw hK;obtain ⟨f0,f1,f2,f3,f4,f5⟩:=hf it (by simp);exact wpAny_pyNext_range_end (I.ok.hd hc) st (by have:n<=i:=hg;lia) λh' eb=>⟨rfl,I.turned (t':=s.toks) (λb o hb e=>eb b o hb e) f0 f1 f3 f4 f5⟩
 self:=λ_ _ _ _ _ st h=>wpAny_pyIter_rangeiter st h
section
variable {X:Cx} {tg:Expr}
def Ot (K:FG9) (tl:TE):TI:=λσ H R=>tl σ H λx H1=>∃a,x=.ref a/\(∃xs,bF K H1 a xs)/\R (QY K a) H1
theorem cB (hl:PE X l tl):PI X tg l (Ot X.K tl):=by
 intro pins s σ H R I h;refine iq (hl pins s σ H _ I h) λv s1 ⟨x,H1,I1,r1,q1⟩=>?_
 obtain ⟨a,e,⟨xs,hq⟩,q⟩:=q1;subst e;cases r1;obtain ⟨its,rv,p,hz⟩:=I1.list hq;refine wpAny_pyIter_list p.isList ?_;refine ⟨s1.heap.objs.size,[s1.heap.objs.size],_,_,H1,rfl,I1.kept (t':=s1.toks) λb o e=>Heap.get?_push_of_some _ e,LH a _,⟨_,Heap.get?_push_size _ rfl,rfl,rfl⟩,λb hb=>?_,q⟩;have e:b=s1.heap.objs.size:=by simpa using hb
 subst e;exact I1.fpOk (au _) (I1.hok.fresh (au _))
theorem GG {σ:St} {lo hi:Int} (I:Inv X pins σ H s) (h1:-(2^62)<=lo) (h2:lo < 2^62) (h3:-(2^62)<=hi) (h4:hi < 2^62)
  (q:R (IP lo (hi - lo).toNat) H):wpAny (model X.prog X.w) X.A (pyIter (.ref s.heap.objs.size)) (PIE X pins σ tg R) E { s with heap:=s.heap.push { cls:=.type "range",data:=.fields #[.int lo t,.int hi u,.int 1 v] },toks:=tk }:=by
 refine wpAny_pyIter_range (IsRange.new ..) (small_one h1 h2 h3 h4) ?_;have I1:Inv X pins σ H { s with heap:=s.heap.push { cls:=.type "range",data:=.fields #[.int lo t,.int hi u,.int 1 v] },toks:=tk }:=I.kept λb o e=>Heap.get?_push_of_some _ e
 refine ⟨(s.heap.push { cls:=.type "range",data:=.fields #[.int lo t,.int hi u,.int 1 v] }).objs.size,[(s.heap.push { cls:=.type "range",data:=.fields #[.int lo t,.int hi u,.int 1 v] }).objs.size],_,_,H,rfl,
  I1.kept (t':=tk) λb o e=>Heap.get?_push_of_some _ e,IX _ lo (hi - lo).toNat,?_,λb hb=>?_,q⟩
 ·have e1:lo+((0:Nat):Int)*1=lo:=by simp
  have e2:(((hi - lo).toNat:Nat):Int) - ((0:Nat):Int)=Builtin.Range.rangeSize lo hi 1:=by rw[rangeSize_one];split <;> lia
  show IsRangeIter _ _ (lo+((0:Nat):Int)*1) ((((hi - lo).toNat:Nat):Int) - ((0:Nat):Int)) 1
  rw[e1,e2];exact Heap.get?_push_size _ rfl
 ·have e:b=(s.heap.push { cls:=.type "range",data:=.fields #[.int lo t,.int hi u,.int 1 v] }).objs.size:=by simpa using hb
  subst e;exact I1.fpOk (au _) (I1.hok.fresh (au _))
def RC (ta:TA):TI:=λσ H R=>ta σ H λvs H1=>∃j:Int,vs=[.int j]/\-(2^62)<=j/\j < 2^62/\R (IP 0 j.toNat) H1
def RB (ta:TA):TI:=λσ H R=>ta σ H λvs H1=>∃i j:Int,vs=[.int i,.int j]/\(-(2^62)<=i/\i < 2^62/\-(2^62)<=j/\j < 2^62)/\R (IP i (j - i).toNat) H1
theorem cE {a:Expr} {ta:TA} {p pos:Pos} (hg:Gl X "range") (hm:X.mg "range"=none) (ha:PA X [a] ta) (hs:starEach [a] X.env=[(false,eval a X.env)]:=by rfl):PI X tg (.Call (.Name "range" p) [a] [] pos) (RC ta):=by
 intro pins s σ H R I h;refine Call_ (kZ I hg hm boot_range (PyProof.Rows.callWith_type1 (iq (ha pos pins s σ H _ I h) λus s1 ⟨vs,H1,I1,r1,q1⟩=>?_) hs rfl));obtain ⟨j,e,q1,q2,q⟩:=q1;subst e;cases r1 with
 | cons r rr =>
  cases rr;obtain ⟨t,rfl⟩:=r;exact call_range_1 (GG I1 (by lia) (by lia) q1 q2 (by simpa using q))
theorem LZ {a b:Expr} {ta:TA} {p pos:Pos} (hg:Gl X "range") (hm:X.mg "range"=none) (ha:PA X [a,b] ta) (hs:starEach [a,b] X.env=[(false,eval a X.env),(false,eval b X.env)]:=by rfl) (hs2:starEach [b] X.env=[(false,eval b X.env)]:=by rfl) :
  PI X tg (.Call (.Name "range" p) [a,b] [] pos) (RB ta):=by
 intro pins s σ H R I h;refine Call_ (kZ I hg hm boot_range (PyProof.Rows.callWith_type1 (iq (ha pos pins s σ H _ I h) λus s1 ⟨vs,H1,I1,r1,q1⟩=>?_) (by rw[hs,hs2]) (by rw[hs2];rfl)));obtain ⟨i,j,e,⟨q1,q2,q3,q4⟩,q⟩:=q1;subst e;cases r1 with
 | cons r rr =>
  cases rr with
  | cons r' rr =>
   cases rr;obtain ⟨t,rfl⟩:=r;obtain ⟨t',rfl⟩:=r';exact call_range_2 (GG I1 q1 q2 q3 q4 q)
def Um (wi:TI) (g:TG) (tb:TS):TS:=λD σ H=>wi σ H λJ H1=>∃W:Nat->Nat->St->Hp->Prop,(∃m,W 0 m σ H1)/\∀i m σ H,W i m σ H →
 (J.stop i H/\D.nx σ H)\/(J.go i H/\∃N:St->Hp->Prop,(∀σ' H',N σ' H'->∃m',m' < m/\W (i+1) m' σ' H')/\∀x H',J.yld i H x H'->g x σ H' λσ2 H2=>tb { D with nx:=N,ct:=N,bk:=D.nx } σ2 H2)
def AO (fp:List Addr) (h:Heap):List (Addr×Obj):=fp.filterMap λb=>(h.get? b).map λo=>(b,o)
theorem p7 (hb:b∈fp) (e:h.get? b=some o):(b,o)∈AO fp h:=List.mem_filterMap.mpr ⟨b,hb,by rw[e];rfl⟩
theorem Mb (hp:p∈AO fp h):p.1∈fp/\h.get? p.1=some p.2:=by
 obtain ⟨b,hb,e⟩:=List.mem_filterMap.mp hp;cases q:h.get? b with
 | none=>rw[q] at e;cases e
 | some o =>
  rw[q] at e;have e':(b,o)=p:=cv e;subst e';exact ⟨hb,q⟩
theorem Inv.pinned {σ:St} (I:Inv X pins σ H s) (hf:∀b∈fp,kx X pins H b) (ho:∀b∈fp,∃o,s.heap.get? b=some o/\∀v,o.data≠.cell v):Inv X (pins++AO fp s.heap) σ H s :=
 I.pins_of λp hp=>(aH.mp hp).elim (λz=>I.pin p (bO _ z)) λz=>by
  obtain ⟨hb,e⟩:=Mb z;obtain ⟨f0,f1,f2,_⟩:=hf p.1 hb;obtain ⟨o,e',d⟩:=ho p.1 hb;rw[e] at e';cases e';exact ⟨e,f0,f1,f2,d⟩
theorem Inv.unpinned {σ:St} (I:Inv X (pins++pl) σ H s):Inv X pins σ H s:=I.pins_of λp hp=>I.pin p (bO _ (iJ _ hp))
theorem dR {iter:Expr} {body:List Stmt} {wi:TI} {g:TG} {tb:TS} {pos:Pos} (hp:PassesOwn (model X.prog X.w) X.A X.env X.xe) (hc:X.calm=true) (hi:PI X tg iter wi) (hg:PG X tg g) (hb:JY X body tb)
  (hs:∀x,foldedSetIterable iter X.env x=pure x:=by intro _;rfl):PS X (.For tg iter body [] pos) (Um wi g tb):=by
 intro pins s σ H D I h;refine wpAny_For (iq (hi pins s σ H _ I h) λv s1 h1=>iq h1 λitv s2 h2=>?_) hs;obtain ⟨it,fp,tn,J,H2,e,I2,T,st2,f2,W,⟨m0,w0⟩,turn⟩:=h2;subst e;have stat:∀{H':Hp},(∀b∈fp,H' b=none)->∀b∈fp,kx X pins H' b:=λhn b hb=>⟨hn b hb,(f2 b hb).2⟩
 refine codeAny_forLoop_any (λn s'=>∃i σ' H',Inv X pins σ' H' s'/\tn i s'.heap/\(∀b∈fp,H' b=none)/\W i n σ' H') ?_ m0 ⟨0,σ,H2,I2,st2,λb hb=>(f2 b hb).1,w0⟩;rintro n s3 ⟨i,σ3,H3,I3,st3,fr3,w3⟩;rcases turn i n σ3 H3 w3 with ⟨stop,qn⟩ | ⟨go,N,hN,step⟩
 ·refine wpAny_passesOwn hp (iq (T.done X rfl rfl rfl hc i pins s3 σ3 H3 X.xe I3 (stat fr3) st3 stop) λr s4 ⟨hr,I4⟩=>?_);subst hr;exact wpAny_execs_nil ⟨σ3,H3,I4,qn⟩
 ·refine wpAny_passesOwn hp (iq (T.item X rfl rfl rfl hc i pins s3 σ3 H3 X.xe I3 (stat fr3) st3 go) λr s4 ⟨u,hr,h4⟩=>?_);subst hr;refine wpAny_passesOwn hp (iq h4 λ_ s5 ⟨x,H5,I5,r5,y5,st5,fr5⟩=>?_);have I5':=I5.pinned (stat fr5) (T.obj _ _ st5);refine wpAny_passesOwn hp (iq (hg _ s5 σ3 H5 x u _ I5' r5 (step x H5 y5)) λ_ s6 ⟨σ6,H6,I6,q6⟩=>?_);refine wpAny_passesOwn hp (iq (hb _ s6 σ6 H6 _ I6 q6) λf s7 q7=>?_)
  have again:∀{σ7:St} {H7:Hp},Inv X (pins++AO fp s5.heap) σ7 H7 s7->N σ7 H7->∃m,m < n/\∃i σ' H',Inv X pins σ' H' s7/\tn i s7.heap/\(∀b∈fp,H' b=none)/\W i m σ' H':=λ{σ7 H7} I7 n7=>by
   obtain ⟨m',hm,w7⟩:=hN σ7 H7 n7;refine ⟨m',hm,i+1,σ7,H7,I7.unpinned,T.keep _ _ _ st5 λb hb o e=>(I7.pin (b,o) (bO _ (bO _ (p7 hb e)))).1,λb hb=>?_,w7⟩;obtain ⟨o,e,d⟩:=T.obj _ _ st5 b hb;exact (I7.pin (b,o) (bO _ (bO _ (p7 hb e)))).2.1
  cases f with
  | next=>obtain ⟨σ7,H7,I7,n7⟩:=q7;exact again I7 n7
  | cont=>obtain ⟨σ7,H7,I7,n7⟩:=q7;exact again I7 n7
  | brk=>obtain ⟨σ7,H7,I7,q7⟩:=q7;exact ⟨σ7,H7,I7.unpinned,q7⟩
  | ret v=>obtain ⟨x7,σ7,H7,I7,r7,q7⟩:=q7;exact ⟨x7,σ7,H7,I7.unpinned,r7,q7⟩
end
theorem iX {K:FG9} {g:TG} {tb:TS} {D:Ends} (Pv:Nat->St->Hp->Prop) (h0:Pv 0 σ H) (hl:∀i σ H,i<=xs.length->Pv i σ H->bF K H a xs)
  (hs:∀i x σ H,xs[i]?=some x->Pv i σ H->g x σ H λσ2 H2=>tb { D with nx:=Pv (i+1),ct:=Pv (i+1),bk:=D.nx } σ2 H2) (hd:∀σ H,Pv xs.length σ H->D.nx σ H) :
  ∃W:Nat->Nat->St->Hp->Prop,(∃m,W 0 m σ H)/\∀i m σ H,W i m σ H →
   ((QY K a).stop i H/\D.nx σ H)\/((QY K a).go i H/\∃N:St->Hp->Prop,(∀σ' H',N σ' H'->∃m',m' < m/\W (i+1) m' σ' H')/\∀x H',(QY K a).yld i H x H'->g x σ H' λσ2 H2=>tb { D with nx:=N,ct:=N,bk:=D.nx } σ2 H2):=by
 refine ⟨λi m σ H=>m=xs.length - i/\i<=xs.length/\Pv i σ H,⟨xs.length,by simp,bC _,h0⟩,?_⟩;rintro i m σ H ⟨rfl,hi,p⟩;have q:=hl i σ H hi p;by_cases hlt:i < xs.length
 ·refine .inr ⟨⟨xs,xs[i],q,by simp [hlt]⟩,Pv (i+1),λσ' H' p'=>⟨xs.length - (i+1),by lia,rfl,hlt,p'⟩,λx H' y=>?_⟩;obtain ⟨e,y⟩:=y;subst e;exact hs i x σ _ (y xs q) p
 ·have e:i=xs.length:=by lia
  subst e;exact .inl ⟨⟨xs,q,au _⟩,hd σ H p⟩
theorem DG {lo:Int} {g:TG} {tb:TS} {D:Ends} (Pv:Nat->St->Hp->Prop) (h0:Pv 0 σ H)
  (hs:∀i σ H,i < n->Pv i σ H->g (.int (lo+i)) σ H λσ2 H2=>tb { D with nx:=Pv (i+1),ct:=Pv (i+1),bk:=D.nx } σ2 H2) (hd:∀σ H,Pv n σ H->D.nx σ H) :
  ∃W:Nat->Nat->St->Hp->Prop,(∃m,W 0 m σ H)/\∀i m σ H,W i m σ H →
   ((IP lo n).stop i H/\D.nx σ H)\/((IP lo n).go i H/\∃N:St->Hp->Prop,(∀σ' H',N σ' H'->∃m',m' < m/\W (i+1) m' σ' H')/\∀x H',(IP lo n).yld i H x H'->g x σ H' λσ2 H2=>tb { D with nx:=N,ct:=N,bk:=D.nx } σ2 H2):=by
 refine ⟨λi m σ H=>m=n - i/\i<=n/\Pv i σ H,⟨n,by simp,bC _,h0⟩,?_⟩;rintro i m σ H ⟨rfl,hi,p⟩;by_cases hlt:i < n
 ·refine .inr ⟨hlt,Pv (i+1),λσ' H' p'=>⟨n - (i+1),by lia,rfl,hlt,p'⟩,λx H' y=>?_⟩;obtain ⟨e,y⟩:=y;subst e y;exact hs i σ _ hlt p
 ·have e:i=n:=by lia
  subst e;exact .inl ⟨au _,hd σ H p⟩
abbrev R2:=V->V->Hp->VK->Prop
def yp (X:Cx) (f:Value->Value->Sem Value) (r:R2):Prop :=
 ∀(pins:List (Addr×Obj)) (s:Shared) (σ:St) (H:Hp) (x y:V) (v u:Value) (Q:VK),Inv X pins σ H s->RelV x v->RelV y u->r x y H Q →
  wpAny (model X.prog X.w) X.A (f v u) (EP X pins σ Q) X.xe s
def VW (X:Cx) (f:Value->Sem Value) (r:V->Hp->VK->Prop):Prop :=
 ∀(pins:List (Addr×Obj)) (s:Shared) (σ:St) (H:Hp) (x:V) (v:Value) (Q:VK),Inv X pins σ H s->RelV x v->r x H Q →
  wpAny (model X.prog X.w) X.A (f v) (EP X pins σ Q) X.xe s
def oV (X:Cx) (f:Value) (r:List V->Hp->VK->Prop):Prop :=
 ∀(pins:List (Addr×Obj)) (s:Shared) (σ:St) (H:Hp) (xs:List V) (us:List Value) (Q:VK),Inv X pins σ H s->c5 xs us->r xs H Q →
  wpAny (model X.prog X.w) X.A (call f us) (EP X pins σ Q) X.xe s
def Ui (r:R2) (ta tb:TE):TE:=λσ H Q=>ta σ H λx H1=>tb σ H1 λy H2=>r x y H2 Q
def Vx (r:V->Hp->VK->Prop) (ta:TE):TE:=λσ H Q=>ta σ H λx H1=>r x H1 Q
def rI (C:Int->Int->Prop) (g:Int->Int->V):R2:=λx y H Q=>∃i j,x=.int i/\y=.int j/\C i j/\Q (g i j) H
def Qg (g:Int->Int->V):R2:=λx y H Q=>∃i j,x=.int i/\y=.int j/\Q (g i j) H
def rU (g:Int->V):V->Hp->VK->Prop:=λx H Q=>∃i,x=.int i/\Q (g i) H
section
variable {X:Cx} {a b c:Expr} {ta tb tc:TE} {pos:Pos}
theorem TK (ha:PE X a ta) (hb:PE X b tb) {σ:St} {R:V->V->Hp->Prop} (I:Inv X pins σ H s)
  (h:ta σ H λx H1=>tb σ H1 λy H2=>R x y H2) {f:Value->Value->Sem Value}
  (hf:∀v u s2 x y H2,Inv X pins σ H2 s2->RelV x v->RelV y u->R x y H2->wpAny (model X.prog X.w) X.A (f v u) Q X.xe s2) :
  wpAny (model X.prog X.w) X.A (eval a X.env) (λv s₁=>wpAny (model X.prog X.w) X.A (eval b X.env) (λu s₂=>wpAny (model X.prog X.w) X.A (f v u) Q X.xe s₂) X.xe s₁) X.xe s:=by
 refine iq (ha pins s σ H _ I h) λv s1 ⟨x,H1,I1,r1,q1⟩=>?_
 refine iq (hb pins s1 σ H1 _ I1 q1) λu s2 ⟨y,H2,I2,r2,q2⟩=>?_
 exact hf v u s2 x y H2 I2 r1 r2 q2
theorem bI (ho:yp X (binaryOp op) r) (ha:PE X a ta) (hb:PE X b tb):PE X (.BinOp a op b pos) (Ui r ta tb):=by
 intro pins s σ H Q I h;exact wpAny_BinOp (TK ha hb I h λv u s2 x y H2 I2 rx ry q=>ho pins s2 σ H2 x y v u Q I2 rx ry q)
theorem t9 (ho:VW X (unaryOp op) r) (ha:PE X a ta):PE X (.UnaryOp op a pos) (Vx r ta):=by
 intro pins s σ H Q I h;exact UnaryOp_ (iq (ha pins s σ H _ I h) λv s1 ⟨x,H1,I1,r1,q1⟩=>ho pins s1 σ H1 x v Q I1 r1 q1)
theorem VN {g:Int->Int->Int}
  (rule:∀(i j:Int) (t u:Tok) (s:Shared) (Q:Value->Shared->Prop) (E:Value->Shared->Prop),C i j->Q (.int (g i j) s.toks) { s with toks:=s.toks+1 }->wpAny (model X.prog X.w) X.A (f (.int i t) (.int j u)) Q E s) :
  yp X f (rI C λi j=>.int (g i j)):=by
 intro pins s σ H x y v u Q I rx ry h;obtain ⟨i,j,rfl,rfl,hc,q⟩:=h;obtain ⟨t,rfl⟩:=rx;obtain ⟨t',rfl⟩:=ry;exact rule i j t t' s _ _ hc ⟨.int (g i j),H,I.tok _,⟨_,rfl⟩,q⟩
theorem UT {g:Int->Int->Int}
  (rule:∀(i j:Int) (t u:Tok) (s:Shared) (Q:Value->Shared->Prop) (E:Value->Shared->Prop),Q (.int (g i j) s.toks) { s with toks:=s.toks+1 }->wpAny (model X.prog X.w) X.A (f (.int i t) (.int j u)) Q E s) :
  yp X f (Qg λi j=>.int (g i j)):=by
 intro pins s σ H x y v u Q I rx ry h;obtain ⟨i,j,rfl,rfl,q⟩:=h;obtain ⟨t,rfl⟩:=rx;obtain ⟨t',rfl⟩:=ry;exact rule i j t t' s _ _ ⟨.int (g i j),H,I.tok _,⟨_,rfl⟩,q⟩
theorem Qs {g:Int->Int->Bool}
  (rule:∀(i j:Int) (t u:Tok) (s:Shared) (Q:Value->Shared->Prop) (E:Value->Shared->Prop),Q (.bool (g i j)) s->wpAny (model X.prog X.w) X.A (f (.int i t) (.int j u)) Q E s) :
  yp X f (Qg λi j=>.bl (g i j)):=by
 intro pins s σ H x y v u Q I rx ry h;obtain ⟨i,j,rfl,rfl,q⟩:=h;obtain ⟨t,rfl⟩:=rx;obtain ⟨t',rfl⟩:=ry;exact rule i j t t' s _ _ ⟨.bl (g i j),H,I,rfl,q⟩
def TY (i j:Int):Prop:=(-(2^64) < i/\i < 2^64)\/(-(2^64) < j/\j < 2^64)
theorem TY.ok (h:TY i j):IntMulOk i j:=by
 rcases h with ⟨h1,h2⟩ | ⟨h1,h2⟩
 ·exact .of_left (intBits_le_64 h1 h2)
 ·exact .of_right (intBits_le_64 h1 h2)
theorem eQ:yp X (binaryOp .Add) (Qg λi j=>.int (i+j)):=UT λ_ _ _ _ _ _ _ q=>add_int q
theorem kX:yp X (binaryOp .Sub) (Qg λi j=>.int (i - j)):=UT λ_ _ _ _ _ _ _ q=>sub_int q
theorem oa:yp X (binaryOp .Mod) (rI (λ_ j=>0 < j) λi j=>.int (i % j)):=VN λi j _ _ _ _ _ hc q=>by
 have h1:(0:Int) < j:=hc;exact mod_int' (by lia) (by rw[Int.fmod_eq_emod_of_nonneg i (by lia)];exact q)
theorem Qr:yp X (binaryOp .Mod) (rI (λ_ j=>j≠0) λi j=>.int (i.fmod j)):=VN λ_ _ _ _ _ _ _ hc q=>mod_int' hc q
theorem unI {g:Int->Int}
  (rule:∀(i:Int) (t:Tok) (s:Shared) (Q:Value->Shared->Prop) (E:Value->Shared->Prop),Q (.int (g i) s.toks) { s with toks:=s.toks+1 }->wpAny (model X.prog X.w) X.A (f (.int i t)) Q E s) :
  VW X f (rU λi=>.int (g i)):=by
 intro pins s σ H x v Q I rx h;obtain ⟨i,rfl,q⟩:=h;obtain ⟨t,rfl⟩:=rx;exact rule i t s _ _ ⟨.int (g i),H,I.tok _,⟨_,rfl⟩,q⟩
theorem nK:VW X (unaryOp .USub) (rU λi=>.int (-i)):=unI λ_ _ _ _ _ q=>neg_int q
end
def Uv:V->V->Bool
 | .non,.non=>true | .non,.int _=>true | .int _,.non=>true | .non,.bl _=>true | .bl _,.non=>true | .non,.str _=>true | .str _,.non=>true
 | .int _,.int _=>true | .bl _,.bl _=>true | .str _,.str _=>true | .byt _,.byt _=>true
 | .int _,.str _=>true | .str _,.int _=>true | .bl _,.str _=>true | .str _,.bl _=>true
 | _,_=>false
def VM:R2:=λx y H Q=>Uv x y=true/\Q (.bl (decide (x=y))) H
def VI:R2:=λx y H Q=>Uv x y=true/\Q (.bl (!decide (x=y))) H
theorem Le:decide (V.int i=V.int j)=(i == j):=by
 rw[lW];simp
theorem OL:decide (V.bl i=V.bl j)=(i == j):=by
 rw[lW];simp
theorem Ld:decide (V.str i=V.str j)=(i == j):=by
 rw[lW];simp
theorem Lf:decide (V.byt i=V.byt j)=(i.toList == j.toList):=by
 rw[lW];cases i;cases j;simp
section
variable {X:Cx} {a b c:Expr} {ta tb tc:TE} {pos:Pos}
theorem dH {σ:St} (I:Inv X pins σ H s) (q:Q (.bl k) H) (e:k=k'):EP X pins σ Q (.bool k') s:=by
 subst e;exact ⟨.bl k,H,I,rfl,q⟩
theorem fH:yp X (compareOp .Eq) VM:=by
 intro pins s σ H x y v u Q I rx ry h;obtain ⟨hs,q⟩:=h;cases x with
 | non =>
  cases rx;cases y with
  | non=>cases ry;exact PySem.EqNone.eq_none_none (dH I q (by simp))
  | bl j=>cases ry;exact PySem.EqNone.eq_none_bool (dH I q (by simp))
  | int j=>obtain ⟨t',rfl⟩:=ry;exact PySem.EqNone.eq_none_int (dH I q (by simp))
  | str j=>obtain ⟨t',rfl⟩:=ry;exact PySem.EqNone.eq_none_str (dH I q (by simp))
  | _=>exact absurd (show false=true from hs) bf
 | bl i =>
  cases rx;cases y with
  | non=>cases ry;exact PySem.EqNone.eq_bool_none (dH I q (by simp))
  | bl j=>cases ry;exact eq_bool (dH I q OL)
  | str j=>obtain ⟨t',rfl⟩:=ry;exact PySem.EqMixed.eq_bool_str (dH I q (by simp))
  | _=>exact absurd (show false=true from hs) bf
 | int i =>
  obtain ⟨t,rfl⟩:=rx;cases y with
  | non=>cases ry;exact PySem.EqNone.eq_int_none (dH I q (by simp))
  | int j=>obtain ⟨t',rfl⟩:=ry;exact eq_int (dH I q Le)
  | str j=>obtain ⟨t',rfl⟩:=ry;exact PySem.EqMixed.eq_int_str (dH I q (by simp))
  | _=>exact absurd (show false=true from hs) bf
 | str i =>
  obtain ⟨t,rfl⟩:=rx;cases y with
  | non=>cases ry;exact PySem.EqNone.eq_str_none (dH I q (by simp))
  | bl j=>cases ry;exact PySem.EqMixed.eq_str_bool (dH I q (by simp))
  | int j=>obtain ⟨t',rfl⟩:=ry;exact PySem.EqMixed.eq_str_int (dH I q (by simp))
  | str j=>obtain ⟨t',rfl⟩:=ry;exact eq_str (dH I q Ld)
  | _=>exact absurd (show false=true from hs) bf
 | byt i =>
  obtain ⟨t,rfl⟩:=rx;cases y with
  | byt j=>obtain ⟨t',rfl⟩:=ry;exact PySem.W.eq_bytes (dH I q Lf)
  | _=>exact absurd (show false=true from hs) bf
 | _=>cases y <;> exact absurd (show false=true from hs) bf
theorem Dx:yp X (compareOp .NotEq) VI:=by
 intro pins s σ H x y v u Q I rx ry h;obtain ⟨hs,q⟩:=h;cases x with
 | non =>
  cases rx;cases y with
  | non=>cases ry;exact PySem.EqNone.ne_none_none (dH I q (by simp))
  | bl j=>cases ry;exact PySem.EqNone.ne_none_bool (dH I q (by simp))
  | int j=>obtain ⟨t',rfl⟩:=ry;exact PySem.EqNone.ne_none_int (dH I q (by simp))
  | str j=>obtain ⟨t',rfl⟩:=ry;exact PySem.EqNone.ne_none_str (dH I q (by simp))
  | _=>exact absurd (show false=true from hs) bf
 | bl i =>
  cases rx;cases y with
  | non=>cases ry;exact PySem.EqNone.ne_bool_none (dH I q (by simp))
  | bl j=>cases ry;exact ne_bool (dH I q (congrArg not OL))
  | str j=>obtain ⟨t',rfl⟩:=ry;exact PySem.EqMixed.ne_bool_str (dH I q (by simp))
  | _=>exact absurd (show false=true from hs) bf
 | int i =>
  obtain ⟨t,rfl⟩:=rx;cases y with
  | non=>cases ry;exact PySem.EqNone.ne_int_none (dH I q (by simp))
  | int j=>obtain ⟨t',rfl⟩:=ry;exact ne_int (dH I q (congrArg not Le))
  | str j=>obtain ⟨t',rfl⟩:=ry;exact PySem.EqMixed.ne_int_str (dH I q (by simp))
  | _=>exact absurd (show false=true from hs) bf
 | str i =>
  obtain ⟨t,rfl⟩:=rx;cases y with
  | non=>cases ry;exact PySem.EqNone.ne_str_none (dH I q (by simp))
  | bl j=>cases ry;exact PySem.EqMixed.ne_str_bool (dH I q (by simp))
  | int j=>obtain ⟨t',rfl⟩:=ry;exact PySem.EqMixed.ne_str_int (dH I q (by simp))
  | str j=>obtain ⟨t',rfl⟩:=ry;exact ne_str (dH I q (congrArg not Ld))
  | _=>exact absurd (show false=true from hs) bf
 | byt i =>
  obtain ⟨t,rfl⟩:=rx;cases y with
  | byt j=>obtain ⟨t',rfl⟩:=ry;exact PySem.W.ne_bytes (dH I q (congrArg not Lf))
  | _=>exact absurd (show false=true from hs) bf
 | _=>cases y <;> exact absurd (show false=true from hs) bf
theorem ue:yp X (compareOp .Lt) (Qg λi j=>.bl (decide (i < j))):=Qs λ_ _ _ _ _ _ _ q=>lt_int q
theorem US:yp X (compareOp .LtE) (Qg λi j=>.bl (decide (i<=j))):=Qs λ_ _ _ _ _ _ _ q=>le_int q
theorem vW:yp X (compareOp .Gt) (Qg λi j=>.bl (decide (j < i))):=Qs λ_ _ _ _ _ _ _ q=>gt_int q
theorem Dy:yp X (compareOp .GtE) (Qg λi j=>.bl (decide (j<=i))):=Qs λ_ _ _ _ _ _ _ q=>ge_int q
theorem KN:yp X (compareOp .IsNot) (λx y H Q=>y=.non/\Q (.bl (!decide (x=.non))) H):=by
 intro pins s σ H x y v u Q I rx ry h;obtain ⟨rfl,q⟩:=h;cases ry;refine isnot_none_gen (dH I q ?_)
 cases x <;> first
  | (cases rx;rfl)
  | (obtain ⟨t,rfl⟩:=rx;rfl)
theorem bM (b:Expr) {op:CmpOp} (h:op≠.In:=by decide) (h2:op≠.NotIn:=by decide):behindInMarks op b=false:=by
 have e1:(op == CmpOp.In)=false:=by cases op <;> first | rfl | exact absurd rfl h
 have e2:(op == CmpOp.NotIn)=false:=by cases op <;> first | rfl | exact absurd rfl h2
 cases b <;> simp [behindInMarks,e1,e2]
theorem mR (ho:yp X (compareOp op) r) (ha:PE X a ta) (hb:PE X b tb) (hm:behindInMarks op b=false):PE X (.Compare a [op] [b] pos) (Ui r ta tb):=by
 intro pins s σ H Q I h;exact wpAny_Compare1 (TK ha hb I h λv u s2 x y H2 I2 rx ry q=>ho pins s2 σ H2 x y v u Q I2 rx ry q) hm
def Q5 (t:TE):TT:=λσ H Q=>t σ H λx H'=>∃k,x=.bl k/\Q k H'
theorem bw (ho:yp X (compareOp op) r) (ha:PE X a ta) (hb:PE X b tb) (hm:behindInMarks op b=false):PT X (.Compare a [op] [b] pos) (Q5 (Ui r ta tb)):=by
 intro pins s σ H Q I h
 refine wpAny_isTrue_Compare1 (iq (ha pins s σ H _ I h) λv s1 ⟨x,H1,I1,r1,q1⟩=>iq (hb pins s1 σ H1 _ I1 q1) λu s2 ⟨y,H2,I2,r2,q2⟩ =>
  iq (ho pins s2 σ H2 x y v u _ I2 r1 r2 q2) λc s3 ⟨z,H3,I3,r3,k,e,q3⟩=>?_) hm
 subst e;cases r3;exact wpAny_truthy_bool ⟨H3,I3,q3⟩
theorem Bj:(sizeLine:Nat) < 2^63:=by rw[sizeLine_eq];decide
theorem vals1 (r:c5 [x] us):∃u,us=[u]/\RelV x u:=by
 cases r with
 | cons r1 r2=>cases r2;exact ⟨_,rfl,r1⟩
theorem vals2 (r:c5 [x,y] us):∃u w',us=[u,w']/\RelV x u/\RelV y w':=by
 cases r with
 | cons r1 r2 =>
  cases r2 with
  | cons r3 r4=>cases r4;exact ⟨_,_,rfl,r1,r3⟩
theorem wX:oV X (.builtin "abs") (λxs H Q=>∃i,xs=[.int i]/\Q (.int (if i < 0 then -i else i)) H):=by
 intro pins s σ H xs us Q I r h;obtain ⟨i,rfl,q⟩:=h;obtain ⟨u,rfl,t,rfl⟩:=vals1 r;exact call_abs_int λu tk=>⟨.int (if i < 0 then -i else i),H,I.tok _,⟨_,rfl⟩,q⟩
theorem tS (hc:X.calm=true):oV X (.builtin "min") (λxs H Q=>∃i j,xs=[.int i,.int j]/\Q (.int (if j < i then j else i)) H):=by
 intro pins s σ H xs us Q I r h;obtain ⟨i,j,rfl,q⟩:=h;obtain ⟨u,w',rfl,⟨t,rfl⟩,⟨t',rfl⟩⟩:=vals2 r;refine min_two_ints (I.ok.hd hc) λh' tk k=>⟨_,H,I.kept k,?_,q⟩
 by_cases hj:j < i
 ·rw[if_pos hj,if_pos hj];exact ⟨_,rfl⟩
 ·rw[if_neg hj,if_neg hj];exact ⟨_,rfl⟩
end
structure JZ (h:Heap) (x dx C:Addr) (mA:Str->Option Value):Prop where
 obj:h.get? x=some (PySem.W.instObj C dx)
 ns:h.Ns1 dx mA
 ne:dx≠x
theorem Mj {h:Heap} (n:h.Ns1 dx mA):∃od,h.get? dx=some od/\∀name,PySem.W.lookIn name od=some (mA name):=by
 obtain ⟨o,es,ep,ho,hd,hk,_,hm⟩:=n;refine ⟨o,ho,λname=>?_⟩;have e:=hm name;unfold nsFind findBy at e;rw[<- Array.find?_toList] at e;unfold PySem.W.lookIn;rw[hd]
 dsimp only
 split
 ·rename_i y q
  rw[q] at e;exact congrArg some e
 ·rename_i q
  rw[q] at e
  have a:es.toList.any (·.refKey)=false:=by
   rw[List.any_eq_false];intro y hy;obtain ⟨z,t,hkey⟩:=hk y (Array.mem_toList_iff.mp hy);simp [DictEntry.refKey,hkey]
  have a':¬es.toList.any (·.refKey)=true:=by rw[a];exact bf
  rw[if_neg a'];exact congrArg some e
theorem JZ.look (I:JZ h x dx C mA):∃od,PySem.W.InstAt h x (PySem.W.instObj C dx) C (some od)/\∀name,PySem.W.lookIn name od=some (mA name) :=
 let ⟨od,ho,hl⟩:=Mj I.ns
 ⟨od,⟨I.obj,rfl,rfl,ho⟩,hl⟩
section
variable {prog:Program} {w:World} {A:Around} {E:Value->Shared->Prop} {s:Shared} {K:FG9} {x dx C f:Addr} {mA:Str->Option Value} {name:Str} {v:Value}
theorem get_map (X:K.In s.heap) (I:JZ s.heap x dx C mA) (hg:PySem.W.plainGet K C name=true) (hh:PySem.W.hasDictIn K C=true)
  (ha:PySem.W.findIn K (.ref C) name=some none) (hv:mA name=some v) (hv':PySem.W.handedIn v=true) (h:Q v { s with toks:=s.toks+1 }) :
  wpAny (model prog w) A (getAttr (.ref x) name expr) Q E s:=by
 obtain ⟨od,J,hl⟩:=I.look;exact PySem.W.get_value X J (FG hg).1 (PySem.W.findObj_own hh ha rfl (by rw[hl,hv])) hv' h
theorem Ow (X:K.In s.heap) (I:JZ s.heap x dx C mA) (hg:PySem.W.plainGet K C name=true)
  (hf:PySem.W.findIn K (.ref C) name=some (some (.ref f))) (ht:PySem.W.isFn K (.ref f)=true) (hv:mA name=none) (h:Q (.ref f,[.ref x]) s) :
  wpAny (model prog w) A (getMethod (.ref x) name pl) Q E s:=by
 obtain ⟨od,J,hl⟩:=I.look;exact PySem.W.method_fn X J (FG hg).1 (FG hg).2 hf (beq_iff_eq.mp ht) (by show (PySem.W.lookIn name od).map (·.isSome)=some false;rw[hl,hv];rfl) h
theorem PB (X:K.In s.heap) (I:JZ s.heap x dx C mA)
  (hs:PySem.W.findIn K (.ref C) "__setattr__"=some (some (.builtin "object.__setattr__"))) (hp:PySem.W.plainOver K C=true) (ht:PySem.W.takerIn K C name=some none) (hh:PySem.W.hasDictIn K C=true)
  (hw:PySem.Within mA ns) (hsz:ns.length<=sizeLine)
  (h:∀h',JZ h' x dx C (λy=>if y=name then some v else mA y)->Heap.SameBut dx s.heap h'->Q () { s with heap:=h',toks:=s.toks+2 }) :
  wpAny (model prog w) A (setAttr (.ref x) name v) Q E s:=by
 obtain ⟨od,J,hl⟩:=I.look;refine PySem.W.set_plain X J hs (PySem.W.osa_open (s:={ s with toks:=s.toks+1 }) (r:=none) X J hp ht λb=>?_);obtain ⟨cd,hc,hd'⟩:=PySem.W.any_some hh;have hx:s.heap.get? x=some ⟨.ref C,some dx,.plain,#[]⟩:=I.obj;refine wpAny_bind (wpAny_pure (wpAny_bind (wpAny_bind (wpAny_loadPart hx (wpAny_bind (PySem.W.Looks.here (s:={ s with toks:=s.toks+1 }) (PySem.W.looks_clsIn X hc) ?_))))));rw[hd'];refine wpAny_pure (a:=some dx) (wpAny_bind (wpAny_pure (wpAny_bind ?_)));refine wpAny_nsSet1 (s:={ s with toks:=s.toks+1 }) I.ns λh' hn2 hs2=>?_
 obtain ⟨oD,esD,epD,hoD,hdD,hcD⟩:=hn2.count (PySem.Within.cons name v hw);refine wpAny_bind (wpAny_lookBehind hoD (by rw[hdD];exact pastItsLine_dict (ag hcD (by rw[bQ];lia))) ?_);exact wpAny_pure (h _ ⟨(hs2.2 _ (Ne.symm I.ne)).trans I.obj,hn2,I.ne⟩ hs2)
theorem Of (X:K.In s.heap) (hm:PySem.W.makesIn K C=true)
  (hi:PySem.W.findIn K (.ref C) "__init__"=some (some (.ref f))) (hf:PySem.W.typeIn K (.ref f)=some (.type "function"))
  (h:codeAny (model prog w) (A.under (.builtin "type.__call__" ⟨.ref C :: vs,kw⟩)) (.call (.ref f) ⟨.ref (s.heap.objs.size+1) :: vs,kw⟩) (PySem.W.InitBack (s.heap.objs.size+1) R)
   { s with heap:=(s.heap.push PySem.W.emptyDict).push (PySem.W.instObj C s.heap.objs.size) }) :
  codeAny (model prog w) A (.call (.ref C) ⟨vs,kw⟩) R s:=by
 obtain ⟨hh,g,d,t,os⟩:=s;exact PySem.W.make_core (PySem.W.makes_of X hm) (PySem.W.looks_findIn X hi) (λself=>PySem.W.bind_fn X self hf) (.inl rfl) h
end
def cF (f:Str) (v:V):List (Str×V)->List (Str×V)
 | []=>[(f,v)]
 | (g,x) :: r=>if g=f then (g,v) :: r else (g,x) :: cF f v r
theorem bE (f g:Str) (v:V):∀fs:List (Str×V),(cF f v fs).lookup g=if g=f then some v else fs.lookup g
 | []=>by
  show List.lookup g [(f,v)]=_
  by_cases h:g=f
  ·have hb:(g == f)=true:=beq_iff_eq.mpr h;simp only[List.lookup,hb,if_pos h]
  ·have hb:(g == f)=false:=beq_eq_false_iff_ne.mpr h;simp only[List.lookup,hb,if_neg h]
 | (k,x) :: r=>by
  have ih:=bE f g v r;rw[show cF f v ((k,x) :: r)=(if k=f then (k,v) :: r else (k,x) :: cF f v r) from rfl];by_cases hk:k=f
  ·rw[if_pos hk];by_cases h:g=k
   ·have hb:(g == k)=true:=beq_iff_eq.mpr h;simp only[List.lookup,hb,if_pos (h.trans hk)]
   ·have hb:(g == k)=false:=beq_eq_false_iff_ne.mpr h;simp only[List.lookup,hb,if_neg (λe:g=f=>h (e.trans hk.symm))]
  ·rw[if_neg hk];by_cases h:g=k
   ·have hb:(g == k)=true:=beq_iff_eq.mpr h;simp only[List.lookup,hb,if_neg (λe:g=f=>hk (h.symm.trans e))]
   ·have hb:(g == k)=false:=beq_eq_false_iff_ne.mpr h;simp only[List.lookup,hb];exact ih
theorem yc (f:Str) (v:V):∀fs:List (Str×V),f∈(cF f v fs).map (·.1)/\∀g,g∈fs.map (·.1)->g∈(cF f v fs).map (·.1)
 | []=>⟨by simp [cF],λg h=>by simp at h⟩
 | (k,x) :: r=>by
  obtain ⟨i1,i2⟩:=yc f v r;rw[show cF f v ((k,x) :: r)=(if k=f then (k,v) :: r else (k,x) :: cF f v r) from rfl];by_cases hk:k=f
  ·rw[if_pos hk];subst hk;exact ⟨by simp,λg h=>by simpa using h⟩
  ·rw[if_neg hk];refine ⟨?_,λg h=>?_⟩
   ·rw[iM];exact bZ _ i1
   ·rw[iM] at h ⊢;rcases aL.mp h with e | e
    ·exact aL.mpr (.inl e)
    ·exact bZ _ (i2 g e)
theorem yG (f:Str) (v:V):∀fs:List (Str×V),(cF f v fs).length<=fs.length+1
 | []=>by simp [cF]
 | (k,x) :: r=>by
  have ih:=yG f v r;rw[show cF f v ((k,x) :: r)=(if k=f then (k,v) :: r else (k,x) :: cF f v r) from rfl];by_cases hk:k=f
  ·rw[if_pos hk,bQ,bQ];lia
  ·rw[if_neg hk,bQ,bQ];lia
theorem CN.some_of (r:CN (some v) o):∃u,o=some u/\RelV v u:=by
 cases o with
 | none=>exact (show False from r).elim
 | some u=>exact ⟨u,rfl,r⟩
theorem CN.none_of (r:CN none o):o=none:=by
 cases o with
 | none=>rfl
 | some u=>exact (show False from r).elim
theorem Mr (r:RelV v u):PySem.W.handedIn u=true:=by
 cases v with
 | non=>cases (show u=Value.none from r);rfl
 | bl b=>cases (show u=Value.bool b from r);rfl
 | int i=>obtain ⟨t,e⟩:=(show ∃t,u=Value.int i t from r);cases e;rfl
 | str x=>obtain ⟨t,e⟩:=(show ∃t,u=Value.str x t from r);cases e;rfl
 | byt b=>obtain ⟨t,e⟩:=(show ∃t,u=Value.bytes b t from r);cases e;rfl
 | flt b=>obtain ⟨t,e⟩:=(show ∃t,u=Value.float b t from r);cases e;rfl
 | ref a=>cases (show u=Value.ref a from r);rfl
 | ty n=>cases (show u=Value.type n from r);rfl
section
variable {P:Program} {w:World} {H H':Hp} {h h':Heap} {a C dx:Addr} {fs fs':List (Str×V)}
theorem zW (hok:Aa P w H h) (e:H a=some (.ins C dx fs)):∃mA,JZ h a dx C mA/\(∀f,CN (fs.lookup f) (mA f))/\PySem.Within mA (fs.map (·.1))/\fs.length<=1000/\H dx=some (.own a):=by
 obtain ⟨d,z,ne,ob,mA,n,r,q⟩:=(show jG P w H h a (.ins C dx fs) from hok a _ e);exact ⟨mA,⟨ob,n,ne⟩,r,q,z,d⟩
end
structure MG (K:FG9) (C:Addr):Prop where
 pg:PySem.W.plainGet K C Str.empty=true
 hd:PySem.W.hasDictIn K C=true
 po:PySem.W.plainOver K C=true
 sa:PySem.W.findIn K (.ref C) "__setattr__"=some (some (.builtin "object.__setattr__"))
theorem MG.get {K:FG9} (c:MG K C) (f:Str):PySem.W.plainGet K C f=true:=c.pg
def j6 (K:FG9) (C:Addr) (f:Str):Prop:=PySem.W.findIn K (.ref C) f=some none
theorem j6.taker {K:FG9} (n:j6 K C f):PySem.W.takerIn K C f=some none:=by
 unfold PySem.W.takerIn;rw[show PySem.W.findIn K (.ref C) f=some none from n];rfl
structure MB (K:FG9) (C:Addr) (m:Str) (f:Addr):Prop where
 at_:PySem.W.findIn K (.ref C) m=some (some (.ref f))
 fn:PySem.W.isFn K (.ref f)=true
 kp:PySem.W.keepIn K (.ref f)=true
section
variable {X:Cx} {pins:List (Addr×Obj)} {σ:St} {H:Hp} {s:Shared} {a C dx:Addr} {fs:List (Str×V)} {f:Str} {v:V} {A:Around} {E:Value->Shared->Prop}
theorem JJ (I:Inv X pins σ H s) (e:H a=some (.ins C dx fs)) (c:MG X.K C) (n:j6 X.K C f) (l:fs.lookup f=some v)
  (h:∀u s',Inv X pins σ H s'->RelV v u->Q u s'):wpAny (model X.prog X.w) A (getAttr (.ref a) f b) Q E s:=by
 obtain ⟨mA,O,r,_,_,_⟩:=zW I.hok e;obtain ⟨u,hu,ru⟩:=CN.some_of (v:=v) (o:=mA f) (by rw[<- l];exact r f);exact get_map I.kIn O (c.get f) c.hd n hu (Mr ru) (h u _ (I.tok _) ru)
theorem Bq (I:Inv X pins σ H s) (e:H a=some (.ins C dx fs)) (c:MG X.K C) (k:MB X.K C m g) (l:fs.lookup m=none)
  (h:Q (.ref g,[.ref a]) s):wpAny (model X.prog X.w) A (getMethod (.ref a) m pl) Q E s:=by
 obtain ⟨mA,O,r,_,_,_⟩:=zW I.hok e;have hn:mA m=none:=CN.none_of (by rw[<- l];exact r m);exact Ow I.kIn O (c.get m) k.at_ k.fn hn h
theorem Jd (I:Inv X pins σ H s) (e:H a=some (.ins C dx fs)) (c:MG X.K C) (n:j6 X.K C f) (hl:fs.length < 1000) (ry:RelV y u)
  (h:∀s',Inv X pins σ (upd H a (.ins C dx (cF f y fs))) s'->Q () s'):wpAny (model X.prog X.w) A (setAttr (.ref a) f u) Q E s:=by
 obtain ⟨mA,O,r,wi,_,ho⟩:=zW I.hok e;have hz:(fs.map (·.1)).length<=sizeLine:=by rw[aj,sizeLine_eq];lia
 refine PB I.kIn O c.sa c.po n.taker c.hd wi hz λh' O' sb=>h _ ?_
 have hd:∃o,h'.get? dx=some o:=let ⟨o,_,_,e',_⟩:=O'.ns;⟨o,e'⟩
 refine I.write (x:=a) (e:=dx) (by rw[e];exact True.intro) (.inr ho) (λb q hb z=>(sb.2 b hb).trans z) hd ?_;refine ⟨by rw[bD O.ne];exact ho,?_,O.ne,O'.obj,_,O'.ns,λg=>?_,λg hg=>?_⟩
 ·have:=yG f y fs;lia
 ·show CN ((cF f y fs).lookup g) (if g=f then some u else mA g)
  rw[bE];by_cases q:g=f
  ·rw[if_pos q,if_pos q];exact ry
  ·rw[if_neg q,if_neg q];exact r g
 ·by_cases q:g=f
  ·rw[q];exact (yc f y fs).1
  ·refine (yc f y fs).2 g (wi g λz=>hg ?_);show (if g=f then some u else mA g)=none
   rw[if_neg q];exact z
theorem Inv.made (I:Inv X pins σ H s):Inv X pins σ (upd (upd H s.heap.objs.size (.own (s.heap.objs.size+1))) (s.heap.objs.size+1) (.ins C s.heap.objs.size []))
  { s with heap:=(s.heap.push PySem.W.emptyDict).push (PySem.W.instObj C s.heap.objs.size) }:=by
 have e1:(s.heap.push PySem.W.emptyDict).get? s.heap.objs.size=some PySem.W.emptyDict:=Heap.get?_push_size s.heap rfl
 have e2:((s.heap.push PySem.W.emptyDict).push (PySem.W.instObj C s.heap.objs.size)).get? (s.heap.objs.size+1)=some (PySem.W.instObj C s.heap.objs.size):=by
  have:=Heap.get?_push_size (s.heap.push PySem.W.emptyDict) (o:=PySem.W.instObj C s.heap.objs.size) rfl;rwa [Heap.size_push] at this
 have e3:(s.heap.push PySem.W.emptyDict).Ns s.heap.objs.size (λ_=>none):=⟨PySem.W.emptyDict,#[],_,e1,rfl,(λe he=>absurd he (by simp)),λ_=>rfl⟩;have I1:=I.laid (a:=s.heap.objs.size) (o:=.own (s.heap.objs.size+1)) (h':=s.heap.push PySem.W.emptyDict) (t':=s.toks) (λb u q=>Heap.get?_push_of_some _ q) (au _) ⟨_,e1⟩;refine I1.laid (a:=s.heap.objs.size+1) (o:=.ins C s.heap.objs.size []) (t':=s.toks) (λb u q=>Heap.get?_push_of_some _ q) (Nat.le_of_eq (Heap.size_push _ _)) ?_;have ne:s.heap.objs.size≠s.heap.objs.size+1:=cV (jh _);refine ⟨by rw[bD ne,aJ],bC _,ne,e2,λ_=>none,(Heap.Ns1.of_empty e3).at λo q=>Heap.get?_push_of_some _ q,λ_=>True.intro,λy hy=>absurd rfl hy⟩
theorem QR (hb:attributeBase e f env (eval e env)=eval e env)
  (h:wpAny (model prog w) A (eval e env) (λo s₁=>wpAny (model prog w) A (getAttr o f true) Q E s₁) E s):wpAny (model prog w) A (eval (.Attribute e f pos) env) Q E s :=
 Attribute_any_ h (by rw[arm_eval_Attribute,hb])
end
def Sg (K:FG9) (ta:TE) (f:Str):TE:=λσ H Q=>ta σ H λx H1=>∃a C dx fs v,x=.ref a/\H1 a=some (.ins C dx fs)/\MG K C/\j6 K C f/\fs.lookup f=some v/\Q v H1
def Uw (K:FG9) (ta tv:TE) (f:Str):TS:=λD σ H=>tv σ H λy H1=>ta σ H1 λx H2=>∃a C dx fs,x=.ref a/\H2 a=some (.ins C dx fs)/\MG K C/\j6 K C f/\fs.length < 1000 /\
 D.nx σ (upd H2 a (.ins C dx (cF f y fs)))
section
variable {X:Cx} {o e value:Expr} {f:Str} {pos pos' tpos:Pos} {ta tv:TE}
theorem eP (he:PE X e ta) (hb:attributeBase e f X.env (eval e X.env)=eval e X.env):PE X (.Attribute e f pos) (Sg X.K ta f):=by
 intro pins s σ H Q I h;refine QR hb (iq (he pins s σ H _ I h) λu s1 ⟨x,H1,I1,rx,a,C,dx,fs,v,ex,ea,c,n,l,q⟩=>?_);subst ex;obtain rfl:u=Value.ref a:=rx;exact JJ I1 ea c n l λu' s2 I2 ru=>⟨v,H1,I2,ru,q⟩
theorem xR (ha:PE X o ta) (hv:PE X value tv) (hs:swapsWith value (some (.Attribute o f pos')) pos.line X.env=pure false):PS X (.Assign [.Attribute o f pos'] value pos) (Uw X.K ta tv f):=by
 intro pins s σ H D I h;refine plainObj_wpAny_Assign_Attribute (iq (hv pins s σ H _ I h) λu s1 ⟨y,H1,I1,ry,q⟩=>iq (ha pins s1 σ H1 _ I1 q) λov s2 ⟨x,H2,I2,rx,a,C,dx,fs,ex,ea,c,n,l,q2⟩=>?_) hs;subst ex;obtain rfl:ov=Value.ref a:=rx;exact Jd I2 ea c n l ry λs3 I3=>⟨σ,_,I3,q2⟩
end
section
variable {X:Cx} {pins:List (Addr×Obj)} {σ:St} {H:Hp} {s:Shared} {A:Around} {E:Value->Shared->Prop} {Q:Value->Shared->Prop} {c:Value} {b:Bool}
inductive ym (K:FG9) (H:Hp):V->Value->Prop where
 | non:ym K H .non (.type "NoneType")
 | bl (x:Bool):ym K H (.bl x) (.type "bool")
 | int (i:Int):ym K H (.int i) (.type "int")
 | str (x:Str):ym K H (.str x) (.type "str")
 | flt (x:UInt64):ym K H (.flt x) (.type "float")
 | lst {a:Addr} {xs:List V} (e:H a=some (.lst xs)):ym K H (.ref a) (.type "list")
 | frz {a:Addr} {o:Obj} {xs:List V} (e:H a=some (.frz o (.lst xs))):ym K H (.ref a) (.type "list")
 | tup {a:Addr} {xs:List V} (e:H a=some (.tup xs)):ym K H (.ref a) (.type "tuple")
 | dK {a:Addr} {kvs:List (Key×V)} (e:H a=some (.dK kvs)):ym K H (.ref a) (.type "dict")
 | dT {a:Addr} {kvs:List (List Key×V)} (e:H a=some (.dT kvs)):ym K H (.ref a) (.type "dict")
 | ins {a C dx:Addr} {fs:List (Str×V)} (e:H a=some (.ins C dx fs)) (cl:MG K C) (ha:PySem.W.findIn K (.ref C) "__class__"=some (some (.builtin "object.__class__")))
   (hn:PySem.W.specialIn K (.builtin "object.__class__") "__get__"=some (some (.builtin "getset_descriptor.__get__"))) (htk:PySem.W.takesIn K (.builtin "object.__class__")=some true)
   (hm:PySem.W.mroIn K C (.type "object")=some true):ym K H (.ref a) (.ref C)
theorem DE (I:Inv X pins σ H s) (rx:RelV x u) (ty:ym X.K H x t) (e:PySem.W.kitOne X.K t c=some b) (h:∀tk,Q (.bool b) { s with toks:=tk }) :
  wpAny (model X.prog X.w) A (call (.builtin "isinstance") [u,c]) Q E s:=by
 cases ty with
 | non=>cases (show u=Value.none from rx);exact dJ PySem.W.kitx_none I.kIn True.intro e (λz=>nomatch z) h
 | bl y=>cases (show u=Value.bool y from rx);exact dJ PySem.W.kitx_bool I.kIn True.intro e (λz=>nomatch z) h
 | int i=>obtain ⟨t,q⟩:=(show ∃t,u=Value.int i t from rx);cases q;exact dJ PySem.W.kitx_int I.kIn True.intro e (λz=>nomatch z) h
 | str y=>obtain ⟨t,q⟩:=(show ∃t,u=Value.str y t from rx);cases q;exact dJ PySem.W.kitx_str I.kIn True.intro e (λz=>nomatch z) h
 | flt y=>obtain ⟨t,q⟩:=(show ∃t,u=Value.float y t from rx);cases q;exact dJ PySem.W.kitx_float I.kIn True.intro e (λz=>nomatch z) h
 | @lst a xs ea =>
  cases (show u=Value.ref a from rx);obtain ⟨_,_,n,_,h1⟩:=(show jG X.prog X.w H s.heap a (.lst xs) from I.hok a _ ea);exact dJ PySem.W.kitx_list I.kIn ⟨_,h1,rfl⟩ e (λz=>nomatch z) h
 | @frz a ob xs ea =>
  cases (show u=Value.ref a from rx);obtain ⟨_,_,_,n,_,h1⟩:=(show jG X.prog X.w H s.heap a (.frz ob (.lst xs)) from I.hok a _ ea);exact dJ PySem.W.kitx_list I.kIn ⟨_,h1,rfl⟩ e (λz=>nomatch z) h
 | @tup a xs ea =>
  cases (show u=Value.ref a from rx);obtain ⟨_,_,_,p⟩:=(show jG X.prog X.w H s.heap a (.tup xs) from I.hok a _ ea);obtain ⟨o,h1,h2,_⟩:=p;exact dJ PySem.W.kitx_tuple I.kIn ⟨o,h1,h2⟩ e (λz=>nomatch z) h
 | @dK a kvs ea =>
  cases (show u=Value.ref a from rx);obtain ⟨_,_,vs,_,p⟩:=(show jG X.prog X.w H s.heap a (.dK kvs) from I.hok a _ ea);obtain ⟨o,es,ep,h1,h2,_⟩:=p;exact dJ PySem.W.kitx_dict I.kIn ⟨o,h1,h2.1⟩ e (λz=>nomatch z) h
 | @dT a kvs ea =>
  cases (show u=Value.ref a from rx);obtain ⟨_,_,xs,_,o,es,ep,h1,h2,_⟩:=(show jG X.prog X.w H s.heap a (.dT kvs) from I.hok a _ ea);exact dJ PySem.W.kitx_dict I.kIn ⟨o,h1,h2.1⟩ e (λz=>nomatch z) h
 | @ins a C dx fs ea cl ha hn htk hm =>
  cases (show u=Value.ref a from rx);obtain ⟨mA,O,_⟩:=zW I.hok ea;obtain ⟨od,J,_⟩:=O.look;exact dJ (PySem.W.kitx_own (cl.get _) cl.hd ha hn htk hm) I.kIn J e (λz=>nomatch z) h
end
structure kv (k:Nat) (A:Around):Prop where
 hd:A.handled=none
 dp:A.depth+3*k+105 < recursionLimit
 un:A.units+16*k+200 < cLine
theorem kv.mono (r:kv k A) (h:j<=k):kv j A:=⟨r.hd,by have:=r.dp;lia,by have:=r.un;lia⟩
theorem kv.deeper (r:kv (k+1) A) (env:Env):kv k (A.deeper env) :=
 ⟨r.hd,by have:=r.dp;show A.depth+1+3*k+105 < _;lia,by have:=r.un;show A.units+3+16*k+200 < _;lia⟩
theorem JD {A:Around}:(A.under (.builtin "type.__call__" ⟨.ref C :: us,kw⟩)).depth=A.depth+1:=by
 first | rfl | simp [Around.under,Code.weight,Code.isCreation,Code.isGuard,Code.isCaller,Code.frames,Code.isFrame,guardIds]
theorem JC {A:Around}:(A.under (.builtin "type.__call__" ⟨.ref C :: us,kw⟩)).units=A.units+1:=by
 first | rfl | simp [Around.under,Code.cUnits,Code.frames,Code.isFrame]
theorem kv.make (r:kv (k+1) A) (C:Addr) (us:List Value) (kw:List (Str×Value)):kv k (A.under (.builtin "type.__call__" ⟨.ref C :: us,kw⟩)) :=
 ⟨r.hd,by have:=r.dp;rw[JD];lia,by have:=r.un;rw[JC];lia⟩
theorem kv.depth (r:kv k A):A.depth < recursionLimit:=by have:=r.dp;lia
theorem kv.units (r:kv k A):A.units+64 < cLine:=by have:=r.un;lia
def IY:TA:=λ_ H Q=>Q [] H
def qX (ta:TE) (tr:TA):TA:=λσ H Q=>ta σ H λx H1=>tr σ H1 λxs H2=>Q (x :: xs) H2
section
variable {X:Cx} {e:Expr} {es:List Expr} {te:TE} {t:TA} {pos:Pos}
theorem ai:PA X [] IY:=λ_ _ _ _ H Q I h=>Calls.spliced_nil ⟨[],H,I,.nil,h⟩
theorem ae (ha:PE X e te) (hr:PA X es t) (hs:starEach (e :: es) X.env=(false,eval e X.env) :: starEach es X.env:=by rfl):PA X (e :: es) (qX te t):=by
 intro pos pins s σ H Q I h;rw[hs];show wpAny _ _ (spliced ((false,eval e X.env) :: backTo pos (starEach es X.env))) _ _ s
 refine Calls.spliced_cons (iq (ha pins s σ H _ I h) λu s1 ⟨x,H1,I1,r1,q1⟩=>?_);exact iq (hr pos pins s1 σ H1 _ I1 q1) λus s2 ⟨xs,H2,I2,r2,q2⟩=>⟨x :: xs,H2,I2,.cons r1 r2,q2⟩
def Uc (t:TA):TE:=λσ H Q=>t σ H λxs H1=>xs.length<=sizeLine/\∀p,H1 p=none->Q (.ref p) (upd H1 p (.tup xs))
def Uk (t:TA):TE:=λσ H Q=>t σ H λxs H1=>xs.length<=sizeLine/\∀p,H1 p=none->Q (.ref p) (upd H1 p (.lst xs))
theorem cW (h:PA X es t):PE X (.Tuple es x1 pos) (Uc t):=by
 intro pins s σ H Q I hq;refine wpAny_Tuple_spliced (iq (h pos pins s σ H _ I hq) λus s1 ⟨xs,H1,I1,r,z,q⟩=>⟨by rw[<- r.length];exact z,?_⟩);have hf:H1 s1.heap.objs.size=none:=I1.hok.fresh (au _);refine ⟨.ref s1.heap.objs.size,upd H1 s1.heap.objs.size (.tup xs),I1.laid (t':=s1.toks) (λb u e=>Heap.get?_push_of_some _ e) (au _) ?_,rfl,q _ hf⟩;exact ⟨z,us,r,⟨_,Heap.get?_push_size _ rfl,rfl,_,rfl⟩⟩
theorem dc (h:PA X es t):PE X (.List es pos) (Uk t):=by
 intro pins s σ H Q I hq;refine wpAny_List_spliced (iq (h pos pins s σ H _ I hq) λus s1 ⟨xs,H1,I1,r,z,q⟩=>⟨by rw[<- r.length];exact z,?_⟩);have hf:H1 s1.heap.objs.size=none:=I1.hok.fresh (au _);refine ⟨.ref s1.heap.objs.size,upd H1 s1.heap.objs.size (.lst xs),I1.laid (t':=s1.toks) (λb u e=>Heap.get?_push_of_some _ e) (au _) ?_,rfl,q _ hf⟩;exact ⟨z,us,0,r,Heap.get?_push_size _ rfl⟩
end
abbrev Sp:=List V->Hp->VK->XK->Prop
abbrev O9:=List Env->Hp->Shared->XK->Value->Shared->Prop
structure J7 (P:Program) (w:World) (K:FG9) (mg:Str->Option Value) (base:Heap) (A:Around) (outer:List Env) (s:Shared) (H:Hp):Prop where
 frames:A.frames=some outer
 mod:Mod K mg base
 bs:∀b o,base.get? b=some o->s.heap.get? b=some o/\H b=none
 bsz:base.objs.size<=s.heap.objs.size
 funs:s.heap.FunFrames base outer
 frf:∀b∈MO outer,H b=none
 hok:Aa P w H s.heap
 bare:AllBare s.gens
def CE (outer:List Env) (P:Program) (w:World) (H:Hp) (s:Shared) (Q:VK) (u:Value) (s':Shared):Prop :=
 ∃v H',s'.os=s.os/\AllBare s'.gens/\Un (MO outer) [] H H' s.heap s'.heap/\Aa P w H' s'.heap/\RelV v u/\Q v H'
def CR (CX:O9) (outer:List Env) (P:Program) (w:World) (H:Hp) (s:Shared) (Q:VK) (E:XK) (r:Result) (s':Shared):Prop :=
 match r with
 | .ok (.ret u)=>CE outer P w H s Q u s'
 | .ok _=>False
 | .error e=>CX outer H s E e s'
structure cK (P:Program) (w:World) (K:FG9) (mg:Str->Option Value) (base:Heap) (CX:O9) (k:Nat) (f:Addr) (fd:FuncData) (ps:List Str) (sp:Sp):Prop where
 len:∀vs H Q E,sp vs H Q E->vs.length=ps.length
 run:∀(A:Around) (outer:List Env) (s:Shared) (H:Hp) (args:Args) (us:List Value) (vs:List V) (Q:VK) (E:XK),kv k A->J7 P w K mg base A outer s H->BindsTo s fd args (ps.zip us)->c5 vs us->sp vs H Q E →
  codeAny (model P w) A (.call (.ref f) args) (CR CX outer P w H s Q E) s
theorem J7.make {K:FG9} (e:J7 P w K mg base A outer s H) (C:Addr) (us:List Value) (kw:List (Str×Value)) :
  J7 P w K mg base (A.under (.builtin "type.__call__" ⟨.ref C :: us,kw⟩)) outer s H:=⟨by first | exact e.frames | (simpa [Around.under,Code.envs,Code.isFrame,pushEnvs] using e.frames),e.mod,e.bs,e.bsz,e.funs,e.frf,e.hok,e.bare⟩
section
variable {X:Cx} {pins:List (Addr×Obj)} {σ:St} {H:Hp} {s s':Shared}
theorem Inv.env0 (I:Inv X pins σ H s):J7 X.prog X.w X.K X.mg X.base X.A X.stack s H :=
 ⟨I.ok.frames,I.ok.mod,I.bs,ag I.ok.bsz I.sz,I.stack,I.stkFree,I.hok,I.bare⟩
theorem Inv.after (I:Inv X pins σ H s) (h:CE X.stack X.prog X.w H s Q u s'):EP X pins σ Q u s':=by
 obtain ⟨v,H',os,bare,un,hok,r,q⟩:=h;obtain ⟨hh,g,d,t,os'⟩:=s';obtain rfl:os'=s.os:=os;exact ⟨v,H',I.call (h':=hh) (g':=g) (d':=d) (t':=t) (ch:=[]) un hok bare (λb z=>absurd z (by simp)),r,q⟩
end
def Nd (sp:Sp) (dvs:List V) (E:XK) (t:TA):TE:=λσ H Q=>t σ H λvs H1=>sp (vs++dvs) H1 Q E
def Nc (C:Addr) (m:Str) (sp:Sp) (dvs:List V) (E:XK) (ta:TE) (t:TA):TE:=λσ H Q=>ta σ H λx H1=>∃a dx fs,x=.ref a/\H1 a=some (.ins C dx fs)/\fs.lookup m=none /\
 t σ H1 λvs H2=>sp (x :: (vs++dvs)) H2 Q E
def Q9 (C:Addr) (sp:Sp) (dvs:List V) (E:XK) (t:TA):TE:=λσ H Q=>t σ H λvs H1=>∀x dx,H1 x=none->H1 dx=none->dx≠x →
 sp (.ref x :: (vs++dvs)) (upd (upd H1 dx (.own x)) x (.ins C dx [])) (λv H2=>v=.non/\Q (.ref x) H2) E
def Binds (K:FG9) (fd:FuncData) (ps:List Str) (ds:List Value):Prop :=
 ∀(s:Shared) (us:List Value),K.In s.heap->(us++ds).length=ps.length->BindsTo s fd ⟨us,[]⟩ (ps.zip (us++ds))
theorem Binds.all {K:FG9} (h:∀us:List Value,us.length=ps.length->bindArgs fd ⟨us,[]⟩=pure (ps.zip us)):Binds K fd ps []:=λs us _ hl=>by
 rw[lU] at hl ⊢;exact .of_eq (h us hl)
def vH (CX:O9) (X:Cx) (E:XK):Prop:=∀(pins:List (Addr×Obj)) (σ:St) (H:Hp) (s:Shared) (e:Value) (s':Shared),Inv X pins σ H s->CX X.stack H s E e s'->X.xe e s'
section
variable {X:Cx} {CX:O9} {k:Nat} {f C:Addr} {fd:FuncData} {ps:List Str} {sp:Sp} {dvs:List V} {ds:List Value} {E:XK} {x m:Str} {p pos apos:Pos} {e o:Expr} {es:List Expr} {ta:TE} {t:TA}
theorem Jl {σ:St} (F:cK X.prog X.w X.K X.mg X.base CX k f fd ps sp) (hr:kv k X.A) (hb:Binds X.K fd ps ds) (hd:c5 dvs ds) (hx:vH CX X E)
  (I:Inv X pins σ H s) (r:c5 vs us) (h:sp (vs++dvs) H Q E):wpAny (model X.prog X.w) X.A (call (.ref f) us) (EP X pins σ Q) X.xe s:=by
 have r2:c5 (vs++dvs) (us++ds):=r.append hd;have hl:(us++ds).length=ps.length:=by rw[<- r2.length];exact F.len _ _ _ _ h
 refine wpAny_call (codeAny_mono (F.run X.A X.stack s H ⟨us,[]⟩ (us++ds) (vs++dvs) Q E hr I.env0 (hb s us I.kIn hl) r2 h) λr s' hq=>?_);cases r with
 | error e=>exact hx pins σ H s e s' I hq
 | ok fl =>
  cases fl with
  | ret u=>exact I.after hq
  | next=>exact False.elim hq
  | brk=>exact False.elim hq
  | cont=>exact False.elim hq
theorem Qp (F:cK X.prog X.w X.K X.mg X.base CX k f fd ps sp) (hr:kv k X.A) (hg:Gl X x) (hm:X.mg x=some (.ref f)) (hk:PySem.W.keepIn X.K (.ref f)=true) (hb:Binds X.K fd ps ds) (hd:c5 dvs ds) (hx:vH CX X E)
  (ha:PA X (e :: es) t) (hdb:(x == ("__debug__":Str))=false:=by decide) (he:starEach (e :: es) X.env=(false,eval e X.env) :: starEach es X.env:=by rfl) (hpl:(backTo pos (starEach es X.env)).any (·.1)=false:=by rfl) :
  PE X (.Call (.Name x p) (e :: es) [] pos) (Nd sp dvs E t):=by
 intro pins s σ H Q I h;refine wpAny_Call_Name_kw (E6 I hg hm ?_ hdb);refine IS (h₀:=X.base) I.ok.mod.kin hk (iq (ha pos pins s σ H _ I h) λus s1 ⟨vs,H1,I1,r,q⟩=>⟨I1.kIn,?_⟩) he hpl;exact Jl F hr hb hd hx I1 r q
theorem KH {pl : Sem Bool} (he : PE X o ta) (c : MG X.K C) (hm : MB X.K C m f) (F : cK X.prog X.w X.K X.mg X.base CX k f fd ps sp) (hr : kv k X.A) (hb : Binds X.K fd ps ds) (hd : c5 dvs ds) (hx : vH CX X E) (ha : PA X (e :: es) t)
    (hst : starEach (e :: es) X.env = (false, eval e X.env) :: starEach es X.env := by rfl) (hpl : (backTo pos (starEach es X.env)).any (·.1) = false := by rfl)
    (ht : eval (.Call (.Attribute o m apos) (e :: es) [] pos) X.env = (do
      let ov <- eval o X.env
      standAt apos.atName
      let (f, first) <- holding [ov] (getMethod ov m pl)
      callWith pos f first (backTo pos (starEach (e :: es) X.env)) (backToKw pos (keywordEach [] X.env))) := by rfl) :
    PE X (.Call (.Attribute o m apos) (e :: es) [] pos) (Nc C m sp dvs E ta t) := by
  intro pins s σ H Q I h;refine PySem.W.methodCall_KW (pl := pl) (iq (he pins s σ H _ I h) λu s1 ⟨x, H1, I1, rx, a, dx, fs, ex, ea, l, q⟩ => ?_) ht;subst ex;obtain rfl : u = Value.ref a := rx;refine Bq I1 ea c hm l ?_;refine IS (first := [.ref a]) (h₀ := X.base) I.ok.mod.kin hm.kp (iq (ha pos pins s1 σ H1 _ I1 q) λus s2 ⟨vs, H2, I2, r, q2⟩ => ⟨I2.kIn, ?_⟩) hst hpl;exact Jl (us := .ref a :: us) (vs := .ref a :: vs) F hr hb hd hx I2 (.cons rfl r) q2
theorem NS {pl : Sem Bool} (he : PE X o ta) (c : MG X.K C) (hm : MB X.K C m f) (F : cK X.prog X.w X.K X.mg X.base CX k f fd ps sp) (hr : kv k X.A) (hb : Binds X.K fd ps ds) (hd : c5 dvs ds) (hx : vH CX X E)
    (ht : eval (.Call (.Attribute o m apos) [] [] pos) X.env = (do
      let ov <- eval o X.env
      standAt apos.atName
      let (f, first) <- holding [ov] (getMethod ov m pl)
      callWith pos f first (backTo pos (starEach [] X.env)) (backToKw pos (keywordEach [] X.env))) := by rfl) :
    PE X (.Call (.Attribute o m apos) [] [] pos) (Nc C m sp dvs E ta IY) := by
  intro pins s σ H Q I h;refine PySem.W.methodCall_KW (pl := pl) (iq (he pins s σ H _ I h) λu s1 ⟨x, H1, I1, rx, a, dx, fs, ex, ea, l, q⟩ => ?_) ht;subst ex;obtain rfl : u = Value.ref a := rx;refine Bq I1 ea c hm l ?_;exact PySem.W.callWith_K0 (first := [.ref a]) I1.kIn hm.kp (Jl (us := [.ref a]) (vs := [.ref a]) F hr hb hd hx I1 (.cons rfl .nil) q)

structure Mk (K:FG9) (C f:Addr):Prop where
 makes:PySem.W.makesIn K C=true
 init:PySem.W.findIn K (.ref C) "__init__"=some (some (.ref f))
 fn:PySem.W.isFn K (.ref f)=true
 kp:PySem.W.keepIn K (.ref C)=true
theorem Nx {σ:St} (M:Mk X.K C f) (F:cK X.prog X.w X.K X.mg X.base CX k f fd ps sp) (hr:kv (k+1) X.A) (hb:Binds X.K fd ps ds) (hd:c5 dvs ds)
  (hx:vH CX X E) (I:Inv X pins σ H s) (r:c5 vs us)
  (h:∀x dx,H x=none->H dx=none->dx≠x->sp (.ref x :: (vs++dvs)) (upd (upd H dx (.own x)) x (.ins C dx [])) (λv H2=>v=.non/\Q (.ref x) H2) E) :
  wpAny (model X.prog X.w) X.A (call (.ref C) us) (EP X pins σ Q) X.xe s:=by
 have hq:=h (s.heap.objs.size+1) s.heap.objs.size (I.hok.fresh (Ee _)) (I.hok.fresh (au _)) (cV (jh _));have I2:=Inv.made (C:=C) I;have r2:c5 (V.ref (s.heap.objs.size+1) :: (vs++dvs)) (Value.ref (s.heap.objs.size+1) :: (us++ds)):=.cons rfl (r.append hd)
 have hl:(Value.ref (s.heap.objs.size+1) :: us++ds).length=ps.length:=by
  have e:=r2.length;rw[F.len _ _ _ _ hq] at e;exact e.symm
 refine wpAny_call (Of (f:=f) I.kIn M.makes M.init (beq_iff_eq.mp M.fn) (codeAny_mono (F.run _ X.stack _ _ ⟨Value.ref (s.heap.objs.size+1) :: us,[]⟩ (Value.ref (s.heap.objs.size+1) :: (us++ds)) _ _ E (hr.make C us [])
  (I2.env0.make C us []) (hb _ (Value.ref (s.heap.objs.size+1) :: us) I2.kIn hl) r2 hq) λr s' hq'=>?_))
 cases r with
 | error e=>exact hx pins σ _ _ e s' I2 hq'
 | ok fl =>
  cases fl with
  | ret u =>
   obtain ⟨v,H',I3,rv,ev,q3⟩:=I2.after hq';subst ev;exact ⟨rv,⟨V.ref (s.heap.objs.size+1),H',I3,rfl,q3⟩⟩
  | next=>exact False.elim hq'
  | brk=>exact False.elim hq'
  | cont=>exact False.elim hq'
theorem KI (M:Mk X.K C f) (F:cK X.prog X.w X.K X.mg X.base CX k f fd ps sp) (hr:kv (k+1) X.A) (hg:Gl X x) (hm:X.mg x=some (.ref C)) (hb:Binds X.K fd ps ds) (hd:c5 dvs ds) (hx:vH CX X E)
  (ha:PA X (e :: es) t) (hdb:(x == ("__debug__":Str))=false:=by decide) (he:starEach (e :: es) X.env=(false,eval e X.env) :: starEach es X.env:=by rfl) (hpl:(backTo pos (starEach es X.env)).any (·.1)=false:=by rfl) :
  PE X (.Call (.Name x p) (e :: es) [] pos) (Q9 C sp dvs E t):=by
 intro pins s σ H Q I h;refine wpAny_Call_Name_kw (E6 I hg hm ?_ hdb);refine IS (h₀:=X.base) I.ok.mod.kin M.kp (iq (ha pos pins s σ H _ I h) λus s1 ⟨vs,H1,I1,r,q⟩=>⟨I1.kIn,?_⟩) he hpl;exact Nx M F hr hb hd hx I1 r q
end
structure aU (N P:List Str) (sc:Scope):Prop where
 kind:sc.kind=.function
 co:sc.isCoroutine=false
 gen:sc.isGenerator=false
 nd:N.Nodup
 pre:N.take P.length=P
 par:∀x∈P,sc.names.lookup x=some .local\/sc.names.lookup x=some .cell
 nofree:∀y∈sc.names,y.2≠.free
theorem DV {kindOf:Str->Option NameKind} {x:Str}:∀{binds:List (Str×Value)} {m:Str->Option Value},(∀v,(x,v)∉binds)->bindL kindOf binds m x=m x
 | [],_,_=>rfl
 | (n,v) :: r,m,h=>by
  unfold bindL;rw[DV λw hw=>h w (bZ _ hw)]
  split
  ·have:x≠n:=by rintro rfl;exact h v dB
   simp [this]
  ·rfl
theorem DX {kindOf:Str->Option NameKind} {x:Str}:∀{binds:List (Str×Value)} {m:Str->Option Value},(∀v,(x,v)∉binds)->bindC kindOf binds m x=m x
 | [],_,_=>rfl
 | (n,v) :: r,m,h=>by
  unfold bindC;rw[DX λw hw=>h w (bZ _ hw)]
  split
  ·rfl
  ·have:x≠n:=by rintro rfl;exact h v dB
   simp [this]
theorem DW {kindOf:Str->Option NameKind} {x:Str} {v:Value}:∀{P:List Str} {vs:List Value} {i:Nat} {m:Str->Option Value},P.Nodup->P[i]?=some x->vs[i]?=some v->kindOf x=some .local →
  bindL kindOf (P.zip vs) m x=some v
 | [],_,_,_,_,h,_,_=>by simp at h
 | _ :: _,[],_,_,_,_,h,_=>by simp at h
 | p :: P,w :: vs,0,m,nd,h1,h2,hk=>by
  simp at h1 h2;subst h1;subst h2;show bindL kindOf ((p,w) :: P.zip vs) m p=_
  unfold bindL;rw[DV λv hv=>(ff.mp nd).1 (Pb hv).1,if_pos hk];simp
 | p :: P,w :: vs,i+1,m,nd,h1,h2,hk=>by
  show bindL kindOf ((p,w) :: P.zip vs) m x=_
  unfold bindL;exact DW (i:=i) (ff.mp nd).2 (by simpa using h1) (by simpa using h2) hk
theorem DY {kindOf:Str->Option NameKind} {x:Str} {v:Value}:∀{P:List Str} {vs:List Value} {i:Nat} {m:Str->Option Value},P.Nodup->P[i]?=some x->vs[i]?=some v->kindOf x≠some .local →
  bindC kindOf (P.zip vs) m x=some v
 | [],_,_,_,_,h,_,_=>by simp at h
 | _ :: _,[],_,_,_,_,h,_=>by simp at h
 | p :: P,w :: vs,0,m,nd,h1,h2,hk=>by
  simp at h1 h2;subst h1;subst h2;show bindC kindOf ((p,w) :: P.zip vs) m p=_
  unfold bindC;rw[DX λv hv=>(ff.mp nd).1 (Pb hv).1,if_neg hk];simp
 | p :: P,w :: vs,i+1,m,nd,h1,h2,hk=>by
  show bindC kindOf ((p,w) :: P.zip vs) m x=_
  unfold bindC;exact DY (i:=i) (ff.mp nd).2 (by simpa using h1) (by simpa using h2) hk
def start (N:List Str) (vs:List V):St:=vs.map some++List.replicate (N.length - vs.length) none
def Mu (CX:O9) (P:Program) (w:World) (K:FG9) (mg:Str->Option Value) (base:Heap) (N:List Str) (qual:Str) (scope:Scope) (f:Addr) (cd:Value) (A:Around) (outer:List Env) (s:Shared) (H:Hp) (E:XK):Cx where
 prog:=P
 w:=w
 K:=K
 mg:=mg
 base:=base
 A:=A.deeper (envOfC qual scope s.heap.objs.size f cd)
 N:=N
 s₀:=s
 H₀:=H
 env:=envOfC qual scope s.heap.objs.size f cd
 outer:=outer
 stack:=envOfC qual scope s.heap.objs.size f cd :: outer
 ex:=[]
 calm:=true
 fn:=λ_=>true
 pn:=[]
 xe:=λe s'=>wpAny (model P w) (A.deeper (envOfC qual scope s.heap.objs.size f cd)) (leaving (envOfC qual scope s.heap.objs.size f cd) e) (λ_ s''=>CX outer H s E e s'') (λe' s''=>CX outer H s E e' s'') s'
theorem Ig {sc:Scope} (h:sc.names.lookup x=some .cell):∃c,(cellsFrom n sc.names []).lookup x=some c:=by
 have q:=Ac sc.names n [] (.inl h);exact T9.mp q
theorem Mn {K:FG9} 
  (S:aU N ps scope) (hd:A.handled=none) (e0:J7 P w K mg base A outer s H) (hl:vs.length=ps.length) (r:c5 vs us)
  (x:InCallC s s.heap.objs.size (bindL (envOfC qual scope s.heap.objs.size f cd).kindOf (ps.zip us) λ_=>none) (cellsFrom (s.heap.objs.size+1) scope.names []) (bindC (envOfC qual scope s.heap.objs.size f cd).kindOf (ps.zip us) λ_=>none) s1) :
  Inv (Mu CX P w K mg base N qual scope f cd A outer s H E) [] (start N vs) H s1:=by
 have hpl:ps.length<=N.length:=by have:=congrArg List.length S.pre;rw[cP] at this;lia
 obtain ⟨h1,tk,rfl,hk⟩:=x.done;have noA:∀b:Addr,b∉(Mu CX P w K mg base N qual scope f cd A outer s H E).ex:=λb z=>absurd (show b∈([]:List Addr) from z) (by simp)
 refine ⟨⟨e0.mod,S.kind,rfl,rfl,au _,λy z c h1 h2=>?_,λy hy=>?_,λy c _ h=>?_,λ_=>hd,Around.frames_deeper e0.frames,.inr ⟨rfl,rfl⟩,λb z=>absurd z (noA b),e0.bs,e0.bsz,λb _ _=>noA b,λb z=>absurd z (noA b),e0.funs,e0.frf⟩,
  rfl,e0.bare,Un.kept hk,⟨_,x.toInCall.ns,λi y v h1 h2 h3=>?_⟩,λy c h=>⟨_,x.cell y c h⟩,e0.hok.fresh (au _),λy c h=>?_,λp hp=>absurd (show p∈([]:List (Addr×Obj)) from hp) (by simp),e0.hok.kept hk,?_⟩
 ·exact name_of_addr x.apart (kS h1) (kS h2)
 ·have hy:scope.names.lookup y=some .cell\/scope.names.lookup y=some .free:=hy;rcases hy with hy | hy
  ·exact Ig hy
  ·exact absurd rfl (S.nofree _ (kS hy))
 ·exact aT (x.above y c (kS h))
 ·have hi:i < vs.length:=by
   unfold start at h2;by_cases hi:i < vs.length
   ·exact hi
   ·rw[bG (by simpa using hi)] at h2;rw[zF] at h2
    split at h2 <;> cases h2
  have ha:vs[i]?=some v:=by
   unfold start at h2;rw[bY (by simpa using hi),aB] at h2;cases e:vs[i]? with
   | none=>rw[e] at h2;cases h2
   | some a=>rw[e] at h2;cases h2;rfl
  obtain ⟨u,hu,rv⟩:=r.get ha
  have hp:ps[i]?=some y:=by
   rw[<- S.pre,lE (by lia)];exact h1
  have ndP:ps.Nodup:=by rw[<- S.pre];exact S.nd.sublist (List.take_sublist _ _)
  refine ⟨u,rv,?_⟩;rcases S.par y (ao hp) with k | k
  ·exact .inl ⟨k,DW ndP hp hu k⟩
  ·obtain ⟨c,e⟩:=Ig (n:=s.heap.objs.size+1) k;refine .inr ⟨.inl k,c,e,?_⟩;have q:=x.cell y c e;rw[DY ndP hp hu (by show scope.names.lookup y≠_;rw[k];decide)] at q;exact q
 ·exact e0.hok.fresh (aT (x.above y c (kS h)))
 ·unfold start;show _=N.length
  rw[aw,aj,bK]
  lia
theorem Vc {K:FG9} {dV kV doc pm cdv ct oc:Value} 
 (lk:K.lookup f=some ⟨oc,od,.func (PySem.W.fnOf name qual params body scope dV kV doc pm an cdv ct),osl⟩) (hcd:PySem.W.codeIn K cdv qual=true) (S:aU N ps scope)
  (len:∀vs H Q E,sp vs H Q E->vs.length=ps.length)
  (hbody:∀(A:Around) (outer:List Env) (s:Shared) (H:Hp) (vs:List V) (Q:VK) (E:XK),kv k (A.deeper (envOfC qual scope s.heap.objs.size f cdv))->sp vs H Q E →
   ∃t,JY (Mu CX P w K mg base N qual scope f cdv A outer s H E) body t/\t { nx:=λ_ H'=>Q .non H',rt:=Q } (start N vs) H) :
  cK P w K mg base CX (k+1) f (PySem.W.fnOf name qual params body scope dV kV doc pm an cdv ct) ps sp:=by
 refine ⟨len,λA outer s H args us vs Q E hr e0 hb r hsp=>?_⟩;have hl:=len _ _ _ _ hsp;have KX:K.In s.heap:=e0.mod.kin.keeps λb o e=>(e0.bs b o e).1
 have lim:s.heap.NoLimit:=e0.mod.nolimit.keeps λb o e=>(e0.bs b o e).1
 have hkind:∀y∈ps.zip us,scope.names.lookup y.1=some .local\/(scope.names.lookup y.1=some .cell/\((cellsFrom (s.heap.objs.size+1) scope.names []).lookup y.1).isSome=true):=λ⟨n,v⟩ hy=>by
  rcases S.par n (Pb hy).1 with q | q
  ·exact .inl q
  ·exact .inr ⟨q,Ac _ _ _ (.inl q)⟩
 refine codeAny_call_function hr.depth (KX _ _ lk) rfl S.co S.gen rfl (PySem.W.codeRec_of KX hcd) (hb _ _ _ _ ?_);refine wpAny_newFunctionEnv_cells S.kind hkind λenv he s1 x=>?_
 subst he;refine ⟨lim.keeps x.toInCall.keep,codeAny_func ?_⟩;obtain ⟨t,ht,hq⟩:=hbody A outer s H vs Q E (hr.deeper _) hsp;have I:Inv (Mu CX P w K mg base N qual scope f cdv A outer s H E) [] (start N vs) H s1:=Mn S hr.hd e0 hl r x;refine wpAny_mono (ht [] s1 (start N vs) H _ I hq) (λfl s' hs=>?_) λe s' hs=>hs
 have fin:∀{σ':St} {H':Hp} {v:V} {u:Value},Inv (Mu CX P w K mg base N qual scope f cdv A outer s H E) [] σ' H' s'->RelV v u->Q v H'->CE outer P w H s Q u s' :=
  λ{σ' H' v u} J rv q=>⟨v,H',J.os,J.bare,J.base,J.hok,rv,q⟩
 cases fl with
 | ret u =>
  obtain ⟨v,σ',H',J,rv,q⟩:=hs;exact fin J rv q
 | next =>
  obtain ⟨σ',H',J,q⟩:=hs;exact fin (v:=V.non) (u:=Value.none) J rfl q
 | brk =>
  obtain ⟨_,_,_,q⟩:=hs;exact False.elim q
 | cont =>
  obtain ⟨_,_,_,q⟩:=hs;exact False.elim q
section
variable {X:Cx} {x:Str} {p pos:Pos} {e:Expr} {es:List Expr} {t:TA} {id T:String} {r:List V->Hp->VK->Prop}
def VF (r:List V->Hp->VK->Prop) (t:TA):TE:=λσ H Q=>t σ H λvs H1=>r vs H1 Q
theorem bL (hc:oV X (.builtin id) r) (hg:Gl X x) (hm:X.mg x=none) (hv:bootBuiltins x=some (.builtin id)) (ha:PA X (e :: es) t) (hn:x≠"__name__":=by decide) (hdb:(x == ("__debug__":Str))=false:=by decide)
  (he:starEach (e :: es) X.env=(false,eval e X.env) :: starEach es X.env:=by rfl) (hpl:(backTo pos (starEach es X.env)).any (·.1)=false:=by rfl):PE X (.Call (.Name x p) (e :: es) [] pos) (VF r t):=by
 intro pins s σ H Q I h;refine wpAny_Call_Name_kw (kZ I hg hm hv ?_ hn hdb);exact PyProof.Rows.callWith_builtin1 (iq (ha pos pins s σ H _ I h) λus s1 ⟨vs,H1,I1,r1,q1⟩=>hc pins s1 σ H1 vs us Q I1 r1 q1) he hpl
theorem du (hc:oV X (.type T) r) (hg:Gl X x) (hm:X.mg x=none) (hv:bootBuiltins x=some (.type T)) (ha:PA X (e :: es) t) (hn:x≠"__name__":=by decide) (hdb:(x == ("__debug__":Str))=false:=by decide)
  (he:starEach (e :: es) X.env=(false,eval e X.env) :: starEach es X.env:=by rfl) (hpl:(backTo pos (starEach es X.env)).any (·.1)=false:=by rfl):PE X (.Call (.Name x p) (e :: es) [] pos) (VF r t):=by
 intro pins s σ H Q I h;refine wpAny_Call_Name_kw (kZ I hg hm hv ?_ hn hdb);exact PyProof.Rows.callWith_type1 (iq (ha pos pins s σ H _ I h) λus s1 ⟨vs,H1,I1,r1,q1⟩=>hc pins s1 σ H1 vs us Q I1 r1 q1) he hpl
end
end L2
namespace HT
open PySem PyProof.Rows
section
open PySem.SeqAt
open PySem.AutoSeq1 (wpAny_loadPart')
open PySem.MeetsSeq PySem.MeetsSeq2 PySem.MeetsSeq3
end
section
variable {prog:Program} {w:World} {A:Around} {E:Value->Shared->Prop} {s:Shared}
def Gy (n d:Nat):Option Int->Nat
 | none=>d
 | some v=>if v < 0 then (v+(n:Int)).toNat else min v.toNat n
theorem Gx (n d:Nat):Gy n d none=d:=rfl
theorem Kv (n d k:Nat):Gy n d (some (k:Int))=min k n:=by
 show (if (k:Int) < 0 then ((k:Int)+(n:Int)).toNat else min (k:Int).toNat n)=min k n
 rw[if_neg (by lia),Int.toNat_natCast]
end
end HT
namespace L2
open PySem PySem.Spec PyProof.Rows
abbrev TO:=St->Hp->(Option Int->Hp->Prop)->Prop
def PO (X:Cx) (e:Option Expr) (t:TO):Prop :=
 ∀(pins:List (Addr×Obj)) (s:Shared) (σ:St) (H:Hp) (Q:Option Int->Hp->Prop),Inv X pins σ H s->t σ H Q →
  wpAny (model X.prog X.w) X.A (evalPart e X.env) (λu s'=>∃o H',Inv X pins σ H' s'/\IsPart u o/\Q o H') X.xe s
def Ke:TO:=λ_ H Q=>Q none H
def Q6 (t:TE):TO:=λσ H Q=>t σ H λx H1=>∃i,x=.int i/\Q (some i) H1
theorem intsAre_of:∀{us:List Value},c5 (ns.map V.int) us->IntsAre us ns:=by
 induction ns with
 | nil=>intro us r;rw[List.map_nil] at r;cases r;exact .nil
 | cons n ns ih =>
  intro us r;rw[iM] at r;cases r with
  | cons r1 r2 =>
   obtain ⟨t,e⟩:=r1;subst e;exact .cons n t (ih r2)
section
variable {X:Cx} {e:Expr} {te:TE} {lo hi:Option Expr} {tl th:TO} {pos p2:Pos}
theorem KE:PO X none Ke:=by
 intro pins s σ H Q I h;rw[evalPart_none];exact wpAny_pure ⟨none,H,I,.none,h⟩
theorem KD (h:PE X e te):PO X (some e) (Q6 te):=by
 intro pins s σ H Q I hw;rw[evalPart_some];refine iq (h pins s σ H _ I hw) λu s1 ⟨x,H1,I1,r1,q1⟩=>?_
 obtain ⟨i,rfl,q⟩:=q1;obtain ⟨t,rfl⟩:=r1;exact ⟨some i,H1,I1,.int i t,q⟩
def SlR (X:Cx) (r:V->Option Int->Option Int->Hp->VK->Prop):Prop :=
 ∀(pins:List (Addr×Obj)) (s:Shared) (σ:St) (H:Hp) (x:V) (v vl vu:Value) (lo hi:Option Int) (sl:Addr) (Q:VK),Inv X pins σ H s->RelV x v->s.heap.IsSliceOf sl vl vu .none->IsPart vl lo->IsPart vu hi->r x lo hi H Q →
  ∃T id,typeLookup (.type T) "__getitem__"=pure (some (.builtin id))/\s.TypeIs v T/\wpAny (model X.prog X.w) X.A (getItem v (.ref sl)) (EP X pins σ Q) X.xe s
def tSl (r:V->Option Int->Option Int->Hp->VK->Prop) (te:TE) (tl th:TO):TE:=λσ H Q=>te σ H λx H1=>tl σ H1 λl H2=>th σ H2 λu H3=>r x l u H3 Q
theorem GI (hr:SlR X r) (he:PE X e te) (hl:PO X lo tl) (hu:PO X hi th):PE X (.Subscript e (.Slice lo hi none p2) pos) (tSl r te tl th):=by
 intro pins s σ H Q I h;refine Subscript_ (iq (he pins s σ H _ I h) λv s1 ⟨x,H1,I1,r1,q1⟩=>?_);refine wpAny_Slice (iq (hl pins s1 σ H1 _ I1 q1) λvl s2 ⟨l,H2,I2,pl,q2⟩=>iq (hu pins s2 σ H2 _ I2 q2) λvu s3 ⟨u,H3,I3,pu,q3⟩=>?_);rw[evalPart_none];refine wpAny_pure ?_;have I4:Inv X pins σ H3 { s3 with heap:=s3.heap.push { cls:=.type "slice",data:=.fields #[vl,vu,.none] } }:=I3.kept (t':=s3.toks) λb ob q=>Heap.get?_push_of_some _ q
 obtain ⟨T,id,hT,ht,hg⟩:=hr pins { s3 with heap:=s3.heap.push { cls:=.type "slice",data:=.fields #[vl,vu,.none] } } σ H3 x v vl vu l u s3.heap.objs.size Q I4 r1 (Heap.IsSliceOf.new ..) pl pu q3;show wpAny (model X.prog X.w) X.A (subscriptTail e (.Slice lo hi none p2) v (.ref s3.heap.objs.size)) (EP X pins σ Q) X.xe { s3 with heap:=s3.heap.push { cls:=.type "slice",data:=.fields #[vl,vu,.none] } }
 exact tail_any (ops:=[.ref s3.heap.objs.size,v]) ht hT hg (by with_unfolding_all rfl)
def wW (xs:List V) (lo hi:Option Int):List V:=(xs.drop (HT.Gy xs.length 0 lo)).take (HT.Gy xs.length xs.length hi - HT.Gy xs.length 0 lo)
theorem yY (xs:List V) (lo hi:Option Int):(wW xs lo hi).length<=xs.length:=by
 unfold wW;rw[cP,MS]
 lia
end
def MM (n:Nat) (i:Int):Option Nat:=if 0<=i then (if i < n then some i.toNat else none) else if -(n:Int)<=i then some (i+n).toNat else none
def JT {α:Type} (xs:List α) (i:Int):Option α:=(MM xs.length i).bind λj=>xs[j]?
theorem KZ (h:MM n i=some j):seqIndex? i n=some j/\j < n/\-(n:Int)<=i/\i < n:=by
 unfold MM at h;by_cases h0:0<=i
 ·rw[if_pos h0] at h;by_cases h1:i < n
  ·rw[if_pos h1] at h;have e:i.toNat=j:=cv h;exact ⟨by rw[seqIndex_of h0 h1,e],by lia,by lia,h1⟩
  ·rw[if_neg h1] at h;cases h
 ·rw[if_neg h0] at h;by_cases h1:-(n:Int)<=i
  ·rw[if_pos h1] at h;have e:(i+n).toNat=j:=cv h;exact ⟨by rw[seqIndex_neg (by lia) h1,e],by lia,h1,by lia⟩
  ·rw[if_neg h1] at h;cases h
theorem Fm {xs:List α} {v:α} (h:JT xs i=some v):∃j,seqIndex? i xs.length=some j/\xs[j]?=some v/\j < xs.length/\-(xs.length:Int)<=i/\i < xs.length:=by
 unfold JT at h;cases e:MM xs.length i with
 | none=>rw[e] at h;cases h
 | some j =>
  rw[e] at h;obtain ⟨h1,h2,h3,h4⟩:=KZ e;exact ⟨j,h1,h,h2,h3,h4⟩
theorem dA {xs:List α} {j:Nat} {v:α} (h:xs[j]?=some v):JT xs (j:Int)=some v:=by
 have hj:j < xs.length:=(aK.mp h).1
 have e:MM xs.length (j:Int)=some j:=by
  unfold MM;rw[if_pos (by lia),if_pos (by lia)];simp
 unfold JT;rw[e];exact h
theorem oR (xs:List α) (v:α):JT (xs++[v]) (-1)=some v:=by
 have hl:(xs++[v]).length=xs.length+1:=by simp
 have e:MM (xs++[v]).length (-1)=some xs.length:=by
  unfold MM;rw[hl,if_neg (by decide),if_pos (by lia)];congr 1
  lia
 unfold JT;rw[e];show (xs++[v])[xs.length]?=some v
 simp
def QW (b:Expr):Prop:=∀o i,subscripted b false o i=operate [o,i] (getItem o i)
def Vo (X:Cx) (r:R2):Prop :=
 ∀(value slice:Expr) (pins:List (Addr×Obj)) (s:Shared) (σ:St) (H:Hp) (x y:V) (v u:Value) (Q:VK),Inv X pins σ H s->RelV x v->RelV y u->r x y H Q →
  subscripted slice false v u=operate [v,u] (getItem v u)->wpAny (model X.prog X.w) X.A (subscriptTail value slice v u) (EP X pins σ Q) X.xe s
def MtR (X:Cx) (id:String) (r:V->List V->Hp->VK->Prop):Prop :=
 ∀(pins:List (Addr×Obj)) (s:Shared) (σ:St) (H:Hp) (x:V) (xs:List V) (v:Value) (us:List Value) (Q:VK),Inv X pins σ H s->RelV x v->c5 xs us->r x xs H Q →
  wpAny (model X.prog X.w) X.A (call (.builtin id) (v :: us)) (EP X pins σ Q) X.xe s
section
variable {X:Cx} {a b:Expr} {ta tb:TE} {pos:Pos}
theorem aW {r:R2} (hr:Vo X r) (ha:PE X a ta) (hb:PE X b tb) (hs:QW b:=by intro _ _;rfl):PE X (.Subscript a b pos) (Ui r ta tb):=by
 intro pins s σ H Q I h;exact Subscript_ (TK ha hb I h λv u s2 x y H2 I2 rx ry q=>hr a b pins s2 σ H2 x y v u Q I2 rx ry q (hs _ _))
def S4 (K:FG9):R2:=λx y H Q=>∃p xs i v,x=.ref p/\y=.int i/\bF K H p xs/\JT xs i=some v/\Q v H
def S0 (K:FG9):R2:=λx y H Q=>∃p xs i v,x=.ref p/\y=.int i/\uQ K H p xs/\JT xs i=some v/\Q v H
theorem bA:Vo X (S4 X.K):=by
 intro value slice pins s σ H x y v u Q I rx ry h hs;obtain ⟨p,xs,i,z,rfl,rfl,hq,he,q⟩:=h;cases rx;obtain ⟨t,rfl⟩:=ry;obtain ⟨its,r,pl,hz⟩:=I.list hq;obtain ⟨j,h1,h2,h3,h4,h5⟩:=Fm he;obtain ⟨w,ew,rw'⟩:=r.get h2;have hl:=r.length;have hn:=Bj;have fin:EP X pins σ Q w s:=⟨z,H,I,rw',q⟩;by_cases h0:0<=i
 ·have hj:i.toNat=j:=by
   rw[seqIndex_of h0 h5] at h1;exact cv h1
  exact item_listR pl.isList h0 (by lia) (by rw[hj];simpa using ew) fin hs
 ·have hj:(i+(its.toArray.size:Int)).toNat=j:=by
   rw[seqIndex_neg (by lia) h4] at h1;rw[aX,<- hl];exact cv h1
  exact subscriptTail_builtinR (x:=w) pl.isList.typeIs slot_list_getitem.lookup
   (wpAny_getItem_list_neg (Q:=λr s'=>r=w/\EP X pins σ Q r s') pl.isList (by lia) (by rw[aX] <;> lia) (by lia) (by rw[hj];simpa using ew) ⟨rfl,fin⟩) hs
theorem bU:Vo X (S0 X.K):=by
 intro value slice pins s σ H x y v u Q I rx ry h hs;obtain ⟨p,xs,i,z,rfl,rfl,hq,he,q⟩:=h;cases rx;obtain ⟨t,rfl⟩:=ry;obtain ⟨its,r,pl,hz⟩:=I.tuple hq;obtain ⟨j,h1,h2,h3,h4,h5⟩:=Fm he;obtain ⟨w,ew,rw'⟩:=r.get h2;have hl:=r.length;have hn:=Bj;have fin:EP X pins σ Q w s:=⟨z,H,I,rw',q⟩
 exact subscriptTail_builtinR (x:=w) pl.typeIs slot_tuple_getitem.lookup
  (getItem_tuple (j:=j) (Q:=λr s'=>r=w/\EP X pins σ Q r s') pl (by lia) (by lia) (by rw[aX,<- hl];exact h1) (by simpa using ew) ⟨rfl,fin⟩) hs
theorem JB (its:List Value) (n j:Nat) (u:Value):Obj.mapSeq (·.setIfInBounds j u) { cls:=.type "list",data:=.seq its.toArray n }={ cls:=.type "list",data:=.seq (its.set j u).toArray n }:=by
 simp [Obj.mapSeq]
theorem Inv.lst {pins:List (Addr×Obj)} {σ:St} {H:Hp} {s:Shared} {p:Addr} {xs:List V} (I:Inv X pins σ H s) (h:H p=some (.lst xs)) :
  ∃(its:List Value) (n:Nat),c5 xs its/\s.heap.get? p=some { cls:=.type "list",data:=.seq its.toArray n }/\xs.length<=sizeLine:=by
 obtain ⟨z,its,n,r,e⟩:=I.hok p _ h;exact ⟨its,n,r,e,z⟩
theorem Inv.lstUpd {σ:St} {its its':List Value} (I:Inv X pins σ H s) (h:H p=some (.lst xs))
  (ho:s.heap.get? p=some { cls:=.type "list",data:=.seq its.toArray n }) (hf:f { cls:=.type "list",data:=.seq its.toArray n }={ cls:=.type "list",data:=.seq its'.toArray n' }) (r:c5 ys its') (hz:ys.length<=sizeLine) (t:Nat) :
  Inv X pins σ (upd H p (.lst ys)) { s with heap:=s.heap.update p f,toks:=t }:=by
 have e:(s.heap.update p f).get? p=some { cls:=.type "list",data:=.seq its'.toArray n' }:=by
  rw[Heap.get?_update_self f ho (by rw[hf] <;> rfl),hf]
 refine I.write (x:=p) (e:=p) (by rw[h];trivial) (.inl rfl) (λb u hb q=>(Heap.get?_update_other _ _ (Ne.symm hb)).trans q) ⟨_,e⟩ ?_;exact ⟨hz,its',n',r,e⟩
def Rj:V->V->V->Hp->(Hp->Prop)->Prop:=λo i v H Q=>∃p xs k j,o=.ref p/\i=.int k/\H p=some (.lst xs)/\MM xs.length k=some j/\Q (upd H p (.lst (xs.set j v)))
theorem set_list:TM X Rj:=by
 intro pins s σ H o i v ov iv u Q I ro ri rv h;obtain ⟨p,xs,k,j,rfl,rfl,hp,hj,q⟩:=h;cases ro;obtain ⟨t,rfl⟩:=ri;obtain ⟨its,n,r,ho,hz⟩:=I.lst hp;obtain ⟨h1,h2,h3,h4⟩:=KZ hj;have hl:=r.length;have hn:=Bj
 have I':Inv X pins σ (upd H p (.lst (xs.set j v))) { s with heap:=s.heap.update p (Obj.mapSeq (·.setIfInBounds j u)) } :=
  I.lstUpd hp ho (JB its n j u) (r.set rv j) (by rw[dM];exact hz) s.toks
 by_cases h0:0<=k
 ·have hk:k.toNat=j:=by
   rw[seqIndex_of h0 h4] at h1;exact cv h1
  exact PySem.W.ki_setAt ho h0 (by lia) (by rw[aX,<- hl];exact h4) (by rw[hk];exact ⟨_,I',q⟩)
 ·have hk:(k+(its.toArray.size:Int)).toNat=j:=by
   rw[seqIndex_neg (by lia) h3] at h1;rw[aX,<- hl];exact cv h1
  exact PySem.W.ki_setBack ho (by lia) (by rw[aX,<- hl];exact h3) (by lia) (by rw[hk];exact ⟨_,I',q⟩)
theorem Er (lo hi:Option Int) (n:Nat):(sliceBounds lo hi none n).1=((HT.Gy n 0 lo:Nat):Int)/\(sliceBounds lo hi none n).2.1=((HT.Gy n n hi:Nat):Int)/\(sliceBounds lo hi none n).2.2=1:=by
 refine ⟨?_,?_,rfl⟩
 ·cases lo with
  | none=>simp [sliceBounds,HT.Gy]
  | some i =>
   simp only[sliceBounds,HT.Gy,Option.getD_none,show (1:Int) > 0 by decide,if_true];by_cases h:i < 0
   ·simp only[h,if_true] <;> lia
   ·simp only[h,if_false] <;> lia
 ·cases hi with
  | none=>simp [sliceBounds,HT.Gy]
  | some i =>
   simp only[sliceBounds,HT.Gy,Option.getD_none,show (1:Int) > 0 by decide,if_true];by_cases h:i < 0
   ·simp only[h,if_true] <;> lia
   ·simp only[h,if_false] <;> lia
theorem Ct (its:List Value) (lo hi:Option Int):slicePick its.toArray lo hi none=((its.drop (HT.Gy its.length 0 lo)).take (HT.Gy its.length its.length hi - HT.Gy its.length 0 lo)).toArray:=by
 obtain ⟨h1,h2,h3⟩:=Er lo hi its.toArray.size;unfold slicePick;rw[h1,h2,h3];simp only[sliceRange_one,pick_run,aX] <;> rfl
def UM (K:FG9):V->Option Int->Option Int->Hp->VK->Prop:=λx lo hi H Q=>∃a xs,x=.ref a/\bF K H a xs/\∀p,H p=none->Q (.ref p) (upd H p (.lst (wW xs lo hi)))
theorem Ku:SlR X (UM X.K):=by
 intro pins s σ H x v vl vu lo hi sl Q I rx hs pl pu h;obtain ⟨a,xs,rfl,hx,q⟩:=h;cases rx;obtain ⟨its,r,ht,hz⟩:=I.list hx;have hlen:=r.length;refine ⟨"list",_,slot_list_getitem.lookup,ht.isList.typeIs,?_⟩;refine wpAny_getItem_list_slice ht.isList hs pl pu .none (by simp) ?_ (by rw[aX] <;> lia);rw[Ct,<- hlen];refine ⟨.ref s.heap.objs.size,_,I.laid (t':=s.toks) (o:=.lst (wW xs lo hi)) (λb ob q=>Heap.get?_push_of_some _ q) (au _) ?_,rfl,q _ (I.hok.fresh (au _))⟩;exact ⟨ag (yY xs lo hi) hz,_,0,(r.drop (HT.Gy xs.length 0 lo)).take (HT.Gy xs.length xs.length hi - HT.Gy xs.length 0 lo),Heap.get?_push_size _ rfl⟩
def wC:V->Bool
 | .non=>true
 | .bl _=>true
 | .int _=>true
 | .str _=>true
 | _=>false
def RJ:V->V->Bool
 | .non,.non=>true
 | .bl a,.bl b=>a == b
 | .bl a,.int b=>(if a then 1 else 0) == b
 | .int a,.bl b=>a == (if b then 1 else 0)
 | .int a,.int b=>a == b
 | .str a,.str b=>a == b
 | _,_=>false
theorem Tx (ry:RelV y u) (rx:RelV x v) (fy:wC y=true) (fx:wC x=true):SeqAt.EqAt A s u v (RJ y x):=by
 cases y with
 | non =>
  cases ry;cases x with
  | non=>cases rx;exact SeqAt.EqAt.same _
  | bl b=>cases rx;exact SeqAt.EqAt.none_bool b
  | int b=>obtain ⟨t,rfl⟩:=rx;exact SeqAt.EqAt.none_int b t
  | str b=>obtain ⟨t,rfl⟩:=rx;exact SeqAt.EqAt.none_str b t
  | _=>exact absurd (show false=true from fx) bf
 | bl a =>
  cases ry;cases x with
  | non=>cases rx;exact SeqAt.EqAt.bool_none a
  | bl b=>cases rx;exact SeqAt.EqAt.bool_bool a b
  | int b=>obtain ⟨t,rfl⟩:=rx;exact SeqAt.EqAt.bool_int a b t
  | str b=>obtain ⟨t,rfl⟩:=rx;exact SeqAt.EqAt.bool_str a b t
  | _=>exact absurd (show false=true from fx) bf
 | int a =>
  obtain ⟨t',rfl⟩:=ry;cases x with
  | non=>cases rx;exact SeqAt.EqAt.int_none a t'
  | bl b=>cases rx;exact SeqAt.EqAt.int_bool a t' b
  | int b=>obtain ⟨t,rfl⟩:=rx;exact SeqAt.EqAt.int_int a t' b t
  | str b=>obtain ⟨t,rfl⟩:=rx;exact SeqAt.EqAt.int_str a t' b t
  | _=>exact absurd (show false=true from fx) bf
 | str a =>
  obtain ⟨t',rfl⟩:=ry;cases x with
  | non=>cases rx;exact SeqAt.EqAt.str_none a t'
  | bl b=>cases rx;exact SeqAt.EqAt.str_bool a t' b
  | int b=>obtain ⟨t,rfl⟩:=rx;exact SeqAt.EqAt.str_int a t' b t
  | str b=>obtain ⟨t,rfl⟩:=rx;exact SeqAt.EqAt.str_str a t' b t
  | _=>exact absurd (show false=true from fx) bf
 | _=>exact absurd (show false=true from fy) bf
def JO (x:V) (u:Value):Bool:=match u with
 | .none=>RJ .non x
 | .bool b=>RJ (.bl b) x
 | .int i _=>RJ (.int i) x
 | .str z _=>RJ (.str z) x
 | _=>false
theorem OH (r:RelV y u) (f:wC y=true):JO x u=RJ y x:=by
 cases y with
 | non=>cases r;rfl
 | bl b=>cases r;rfl
 | int i=>obtain ⟨t,rfl⟩:=r;rfl
 | str z=>obtain ⟨t,rfl⟩:=r;rfl
 | _=>exact absurd (show false=true from f) bf
theorem wY {x:V}:∀{xs:List V} {us:List Value},c5 xs us->xs.all wC=true->us.any (JO x)=xs.any λy=>RJ y x
 | _,_,.nil,_=>rfl
 | y :: xs,u :: us,.cons r t,f=>by
  rw[List.all_cons,eC] at f;rw[List.any_cons,List.any_cons,OH r f.1,wY t f.2]
theorem sH {A:Around} {s:Shared} {x:V} {v:Value} (rx:RelV x v) (fx:wC x=true):∀{xs:List V} {us:List Value},c5 xs us->xs.all wC=true->∀u∈us,SeqAt.EqAt A s u v (JO x u)
 | _,_,.nil,_=>λu hu=>by cases hu
 | y :: xs,u :: us,.cons r t,f=>λu' hu=>by
  rw[List.all_cons,eC] at f;rcases aL.mp hu with rfl | hu
  ·rw[OH r f.1];exact Tx r rx f.1 fx
  ·exact sH rx fx t f.2 u' hu
def Vy (x:V) (xs:List V):Bool:=xs.any λy=>RJ y x
def VJ (K:FG9) (neg:Bool):R2:=λx y H Q=>∃p xs,y=.ref p/\(bF K H p xs\/uQ K H p xs)/\wC x=true/\xs.all wC=true/\Q (.bl (if neg then !Vy x xs else Vy x xs)) H
theorem L5:yp X (compareOp .In) (VJ X.K false):=by
 intro pins s σ H x y v u Q I rx ry h;obtain ⟨p,xs,rfl,hq,fx,fs,q⟩:=h;cases ry;rcases hq with hq | hq
 ·obtain ⟨its,r,pl,hz⟩:=I.list hq;refine SeqAt.in_listAt (JO x) pl.isList (λw hw=>sH rx fx r fs w (by simpa using hw)) ⟨.bl _,H,I,rfl,?_⟩;rw[show its.toArray.any (JO x)=its.any (JO x) by simp,wY r fs];exact q
 ·obtain ⟨its,r,pl,hz⟩:=I.tuple hq;refine SeqAt.in_tupleAt (JO x) pl (λw hw=>sH rx fx r fs w (by simpa using hw)) ⟨.bl _,H,I,rfl,?_⟩;rw[show its.toArray.any (JO x)=its.any (JO x) by simp,wY r fs];exact q
theorem EL:yp X (compareOp .NotIn) (VJ X.K true):=by
 intro pins s σ H x y v u Q I rx ry h;obtain ⟨p,xs,rfl,hq,fx,fs,q⟩:=h;cases ry;rcases hq with hq | hq
 ·obtain ⟨its,r,pl,hz⟩:=I.list hq;refine SeqAt.notIn_listAt (JO x) pl.isList (λw hw=>sH rx fx r fs w (by simpa using hw)) ⟨.bl _,H,I,rfl,?_⟩;rw[show its.toArray.any (JO x)=its.any (JO x) by simp,wY r fs];exact q
 ·obtain ⟨its,r,pl,hz⟩:=I.tuple hq;refine SeqAt.notIn_tupleAt (JO x) pl (λw hw=>sH rx fx r fs w (by simpa using hw)) ⟨.bl _,H,I,rfl,?_⟩;rw[show its.toArray.any (JO x)=its.any (JO x) by simp,wY r fs];exact q
theorem be:oV X (.builtin "len") (λxs H Q=>∃p ys,xs=[.ref p]/\(bF X.K H p ys\/uQ X.K H p ys)/\Q (.int ys.length) H):=by
 intro pins s σ H xs us Q I r h;obtain ⟨p,ys,rfl,hq,q⟩:=h;obtain ⟨u,rfl,rx⟩:=vals1 r;cases rx;have hn:=Bj;rcases hq with hq | hq
 ·obtain ⟨its,r',pl,hz⟩:=I.list hq;have hlen:=r'.length;exact Calls.call_len_list pl.isList (by simp only[aX] <;> lia) ⟨.int ys.length,H,I.tok _,⟨s.toks+1,by rw[aX,hlen]⟩,q⟩
 ·obtain ⟨its,r',pl,hz⟩:=I.tuple hq;have hlen:=r'.length;exact len_tuple pl (by simp only[aX] <;> lia) ⟨.int ys.length,H,I.tok _,⟨s.toks+1,by rw[aX,hlen]⟩,q⟩
theorem fP:oV X (.type "list") (λxs H Q=>∃p ys,xs=[.ref p]/\(bF X.K H p ys\/uQ X.K H p ys)/\∀l,H l=none->Q (.ref l) (upd H l (.lst ys))):=by
 intro pins s σ H xs us Q I r h;obtain ⟨p,ys,rfl,hq,q⟩:=h;obtain ⟨u,rfl,rx⟩:=vals1 r;cases rx
 have fin:∀(its:List Value),c5 ys its->ys.length<=sizeLine->∀(h':Heap) (c':Nat),(∀b o',s.heap.get? b=some o'->h'.get? b=some o') →
   h'.get? s.heap.objs.size=some { cls:=.type "list",dict:=none,data:=.seq its.toArray c',slots:=#[] }->EP X pins σ Q (.ref s.heap.objs.size) { s with heap:=h' }:=λits r' hz h' c' kp e =>
  ⟨.ref s.heap.objs.size,_,I.laid (t':=s.toks) kp (au _) (show jG X.prog X.w _ h' _ (.lst ys) from ⟨hz,its,c',r',e⟩),rfl,q _ (I.hok.fresh (au _))⟩
 rcases hq with hq | hq
 ·obtain ⟨its,r',pl,hz⟩:=I.list hq;have hlen:=r'.length;obtain ⟨o,ho,hc,n,hd⟩:=pl.isList;exact call_list_seq p (.inl rfl) ho hc hd (λh' c' kp e=>fin its r' hz h' c' kp e) (by simp only[aX] <;> lia)
 ·obtain ⟨its,r',pl,hz⟩:=I.tuple hq;have hlen:=r'.length;obtain ⟨o,ho,hc,n,hd⟩:=pl;exact call_list_seq p (.inr rfl) ho hc hd (λh' c' kp e=>fin its r' hz h' c' kp e) (by simp only[aX] <;> lia)
def VE (K:FG9) (T:String) (x:V) (H:Hp):Prop:=match x with
 | .str _=>T="str"
 | .int _=>T="int"
 | .ref p=>(T="list"/\∃xs,bF K H p xs)\/(T="tuple"/\∃o,K.lookup p=some o/\o.cls=.type "tuple"/\o.dict=none) \/
   (T="dict"/\((∃kvs,H p=some (.dK kvs))\/∃kvs,H p=some (.dT kvs)))\/(T="set"/\∃S n,H p=some (.set S n))
 | _=>False
theorem RX {σ:St} (I:Inv X pins σ H s) (r:RelV x v) (ty:VE X.K T x H) :
  s.TypeIs v T/\∀a,v=.ref a->∃ob,s.heap.get? a=some ob/\ob.dict=none:=by
 cases x with
 | str z =>
  obtain ⟨t,rfl⟩:=r;cases (show T="str" from ty);exact ⟨typeIs_str s z t,λ_ e=>nomatch e⟩
 | int i =>
  obtain ⟨t,rfl⟩:=r;cases (show T="int" from ty);exact ⟨typeIs_int s i t,λ_ e=>nomatch e⟩
 | ref p =>
  cases r;rcases ty with ⟨rfl,xs,hq⟩ | ⟨rfl,o,hk,hc,hd⟩ | ⟨rfl,hk⟩ | ⟨rfl,S,n,hk⟩
  ·obtain ⟨its,_,pl,_⟩:=I.list hq;refine ⟨pl.isList.typeIs,λa e=>?_⟩;cases e;obtain ⟨o,n,e,c,hd,_⟩:=pl;exact ⟨o,e,hd⟩
  ·refine ⟨⟨o,I.kIn p o hk,hc⟩,λa e=>?_⟩;cases e;exact ⟨o,I.kIn _ o hk,hd⟩
  ·have z:∃o,s.heap.get? p=some o/\o.ExactDict:=by
    rcases hk with ⟨kvs,hk⟩ | ⟨kvs,hk⟩
    ·obtain ⟨_,_,_,_,o,_,_,e,ex,_⟩:=I.hok p _ hk;exact ⟨o,e,ex⟩
    ·obtain ⟨_,_,_,_,o,_,_,e,ex,_⟩:=I.hok p _ hk;exact ⟨o,e,ex⟩
   obtain ⟨o,e,ex⟩:=z;refine ⟨⟨o,e,ex.1⟩,λa e2=>?_⟩;cases e2;exact ⟨o,e,ex.2.1⟩
  ·obtain ⟨o,_,_,_,e,ex,_⟩:=I.hok p _ hk;refine ⟨⟨o,e,ex.1⟩,λa e2=>?_⟩;cases e2;exact ⟨o,e,ex.2.1⟩
 | _=>exact False.elim ty
def tBM (K:FG9) (T:String) (r:V->List V->Hp->VK->Prop) (to:TE) (t:TA):TE:=λσ H Q=>to σ H λx H1=>VE K T x H1/\t σ H1 λxs H2=>r x xs H2 Q
variable {o e:Expr} {es:List Expr} {to:TE} {t:TA} {name:Str} {apos cpos:Pos} {T id:String} {r:V->List V->Hp->VK->Prop}
theorem qH (pa:PlainAttrs T) (slot:Slot T name id) (hty:typeOf (.builtin id)=pure (.type "method_descriptor")) (hm:MtR X id r) (ho:PE X o to) (ha:PA X (e :: es) t)
  (hbase:attributeBase o name X.env (eval o X.env)=eval o X.env:=by rfl)
  (hfew:((backTo cpos (starEach (e :: es) X.env)).all (λx=>!x.1) && (backToKw cpos (keywordEach [] X.env)).all (λx=>x.1.isSome)
   && decide ((e :: es).length+([]:List Keyword).length+(if ([]:List Keyword).isEmpty then 0 else 1) < 30))=true:=by rfl)
  (hline:(apos.endLine == cpos.line)=true:=by rfl) (hs:starEach (e :: es) X.env=(false,eval e X.env) :: starEach es X.env:=by rfl) (hplain:(backTo cpos (starEach es X.env)).any (·.1)=false:=by rfl) :
  PE X (.Call (.Attribute o name apos) (e :: es) [] cpos) (tBM X.K T r to t):=by
 intro pins s σ H Q I h;refine wpAny_Call_method_late hbase hfew hline rfl (iq (ho pins s σ H _ I h) λv s1 ⟨x,H1,I1,r1,ty,q1⟩=>?_);obtain ⟨h1,h2⟩:=RX I1 r1 ty;refine ⟨T,id,pa,slot,hty,h1,h2,?_⟩;have hA:=ha cpos pins s1 σ H1 _ I1 q1;rw[hs] at hA ⊢;refine Calls.callWith_builtin (by show (false || (backTo cpos (starEach es X.env)).any (·.1))=false;rw[hplain] <;> rfl) (Calls.evalArgs_plain ?_);exact iq hA λus s2 ⟨vs,H2,I2,r2,q2⟩=>hm pins s2 σ H2 x vs v us Q I2 r1 r2 q2
end
def MtM (X:Cx) (id:String) (r:V->List V->Hp->VK->Prop):Prop :=
 ∀(pins:List (Addr×Obj)) (s:Shared) (σ:St) (H:Hp) (x:V) (xs:List V) (v:Value) (us:List Value) (Q:VK),Inv X pins σ H s->RelV x v->c5 xs us->r x xs H Q →
  wpAny (model X.prog X.w) X.A (call (.builtin id) (v :: us)) (EP X pins σ Q) X.xe s
theorem c5.one:∀{x:V} {us:List Value},c5 [x] us->∃u,us=[u]/\RelV x u
 | _,_,.cons r .nil=>⟨_,rfl,r⟩
theorem c5.rep {xs:List V} {us:List Value} (h:c5 xs us):∀k:Nat,c5 (List.replicate k xs).flatten (List.replicate k us).flatten
 | 0=>.nil
 | k+1=>by
  rw[je,je,dY,dY];exact c5.append h (c5.rep h k)
theorem foldl_rep (its:List Value):∀(k:Nat) (acc:List Value),
  List.foldl (λx1 x2=>x1++x2) acc.toArray (List.replicate k its.toArray)=(acc++(List.replicate k its).flatten).toArray
 | 0,acc=>by simp
 | k+1,acc=>by
  have e:acc.toArray++its.toArray=(acc++its).toArray:=by simp
  have e2:(acc++its)++(List.replicate k its).flatten=acc++(List.replicate (k+1) its).flatten:=by
   rw[je,dY,cJ]
  rw[<- e2,<- foldl_rep its k (acc++its),<- e,je,List.foldl_cons]
section
variable {X:Cx} {pins:List (Addr×Obj)} {σ:St} {H:Hp} {s:Shared} {l b:Addr} {xs ys zs:List V}
theorem Inv.lset {its its':List Value} (I:Inv X pins σ H s) (hH:H l=some (.lst xs))
  (e:s.heap.get? l=some { cls:=.type "list",data:=.seq its.toArray n }) (hf:f its.toArray=its'.toArray) (hv:c5 ys its') (hz:ys.length<=sizeLine) :
  Inv X pins σ (upd H l (.lst ys)) { s with heap:=s.heap.update l (Obj.mapSeq f),toks:=t' }:=by
 have q:=kF e f;rw[hf] at q;refine I.write (x:=l) (e:=l) (by rw[hH];exact trivial) (.inl rfl) (λb' u hb hu=>(Heap.get?_update_other s.heap (Obj.mapSeq f) (Ne.symm hb)).trans hu) ⟨_,q⟩ ?_;exact ⟨hz,its',_,hv,q⟩
theorem Inv.lnew (I:Inv X pins σ H s) (hv:c5 ys its) (hz:ys.length<=sizeLine) :
  Inv X pins σ (upd H s.heap.objs.size (.lst ys)) { s with heap:=s.heap.push { cls:=.type "list",data:=.seq its.toArray },toks:=t' } :=
 I.laid (λ_ _ q=>Heap.get?_push_of_some _ q) (au _) ⟨hz,its,0,hv,Heap.get?_push_size _ rfl⟩
theorem Inv.fresh (I:Inv X pins σ H s):H s.heap.objs.size=none:=I.hok.fresh (au _)
theorem Inv.lstM (I:Inv X pins σ H s) (hH:H l=some (.lst xs)):xs.length<=sizeLine/\∃(its:List Value) (n:Nat),c5 xs its/\xs.length=its.length/\s.heap.get? l=some { cls:=.type "list",data:=.seq its.toArray n }:=by
 obtain ⟨z,its,n,r,e⟩:=I.hok l _ hH;exact ⟨z,its,n,r,r.length,e⟩
theorem GW (h:n<=sizeLine):Builtin.List.listTooLong n=false:=by
 unfold Builtin.List.listTooLong;exact decide_eq_false (by lia)
end
section
variable {X:Cx}
def Kx:V->List V->Hp->VK->Prop:=λx vs H Q=>∃l xs y,x=.ref l/\vs=[y]/\H l=some (.lst xs)/\xs.length < sizeLine/\Q .non (upd H l (.lst (xs++[y])))
theorem gQ:MtM X "list.append" Kx:=by
 intro pins s σ H x vs v us Q I rx rv h;obtain ⟨l,xs,y,rfl,rfl,hH,hz,q⟩:=h;cases rx;obtain ⟨u,rfl,ru⟩:=rv.one;obtain ⟨z,its,n,r,hl,e⟩:=I.lstM hH;refine call_meets F.slot_list_append ⟨_,e,rfl⟩ F.entry_list_append (F.args_list_append_2 _ _) (PySem.list_append l its.toArray n u (by rw[aX];lia)) ⟨e,?_⟩;refine ⟨.non,_,I.lset (its':=its++[u]) hH e (by simp) (r.append (.cons ru .nil)) ?_,rfl,q⟩;rw[aw,bJ]
 lia
def Qh:V->List V->Hp->VK->Prop:=λx vs H Q=>∃l b xs zs,x=.ref l/\vs=[.ref b]/\H l=some (.lst xs)/\H b=some (.lst zs)/\xs.length+zs.length<=sizeLine/\Q .non (upd H l (.lst (xs++zs)))
theorem Mg:MtM X "list.extend" Qh:=by
 intro pins s σ H x vs v us Q I rx rv h;obtain ⟨l,b,xs,zs,rfl,rfl,hH,hB,hz,q⟩:=h;cases rx;obtain ⟨u,rfl,ru⟩:=rv.one;cases ru;obtain ⟨z,its,n,r,hl,e⟩:=I.lstM hH;obtain ⟨z2,its2,n2,r2,hl2,e2⟩:=I.lstM hB;have hsz:its.toArray.size+its2.toArray.size<=sizeLine:=by rw[aX,aX];lia
 have hlong:¬(!its.toArray.isEmpty && Builtin.List.listTooLong (its.toArray.size+its2.toArray.size))=true:=by
  rw[GW hsz,Bool.and_false];exact bf
 refine call_meets F.slot_list_extend ⟨_,e,rfl⟩ F.entry_list_extend (F.args_list_extend_2 _ _)
  (AutoSeq1.list_extend_list_list_0 l its.toArray n b its2.toArray n2 hlong (by rw[aX];lia) (by lia)) ⟨e,e2,?_⟩
 refine ⟨.non,_,I.lset (its':=its++its2) hH e (by simp) (r.append r2) ?_,rfl,q⟩;rw[aw]
 lia
def UP:R2:=λx y H Q=>∃l b xs zs,x=.ref l/\y=.ref b/\H l=some (.lst xs)/\H b=some (.lst zs)/\xs.length+zs.length<=sizeLine/\∀p,H p=none->Q (.ref p) (upd H p (.lst (xs++zs)))
theorem jP:yp X (binaryOp .Add) UP:=by
 intro pins s σ H x y v u Q I rx ry h;obtain ⟨l,b,xs,zs,rfl,rfl,hH,hB,hz,q⟩:=h;cases rx;cases ry;obtain ⟨z,its,n,r,hl,e⟩:=I.lstM hH;obtain ⟨z2,its2,n2,r2,hl2,e2⟩:=I.lstM hB;refine PySem.P.add_list e e2 ?_ (by rw[aX,aX];lia);have ea:its.toArray++its2.toArray=(its++its2).toArray:=by simp
 rw[ea];exact ⟨.ref _,_,I.lnew (t':=s.toks) (r.append r2) (by rw[aw];lia),rfl,q _ I.fresh⟩
def UN:R2:=λx y H Q=>∃l k xs,x=.ref l/\y=.int k/\H l=some (.lst xs)/\-(2^63)<=k/\k < 2^63/\xs.length*k.toNat<=sizeLine /\
 ∀p,H p=none->Q (.ref p) (upd H p (.lst (List.replicate k.toNat xs).flatten))
theorem len_rep {α:Type} (xs:List α) (k:Nat):(List.replicate k xs).flatten.length=k*xs.length:=by
 induction k with
 | zero=>simp
 | succ k ih=>rw[je,dY,aw,ih,cZ,tU]
theorem NU:yp X (binaryOp .Mult) UN:=by
 intro pins s σ H x y v u Q I rx ry h;obtain ⟨l,k,xs,rfl,rfl,hH,h1,h2,hz,q⟩:=h;cases rx;obtain ⟨t,rfl⟩:=ry;obtain ⟨z,its,n,r,hl,e⟩:=I.lstM hH;have hlen:its.toArray.size*k.toNat<=sizeLine:=by rw[aX,<- hl];exact hz
 have hcap:¬its.toArray.size*k.toNat > (2^63 - 1) / 8:=by
  have:(sizeLine:Nat)<=(2^63 - 1) / 8:=by decide
  lia
 have hfit:¬(!Builtin.List.listFitsIndex k)=true:=by
  rw[fitsIndex_both h1 h2];exact bf
 have hlong:¬Builtin.List.listTooLong (its.toArray.size*k.toNat)=true:=by
  rw[GW hlen];exact bf
 have hnew:List.foldl (λx1 x2=>x1++x2) #[] (List.replicate (if its.toArray.isEmpty=true then 0 else k.toNat) its.toArray)=(List.replicate k.toNat its).flatten.toArray:=by
  have f0:∀m:Nat,List.foldl (λx1 x2=>x1++x2) #[] (List.replicate m its.toArray)=(List.replicate m its).flatten.toArray:=λm=>by
   have:=foldl_rep its m [];rw[c6] at this;exact this
  rw[f0];cases its with
  | nil=>simp
  | cons a r'=>rw[if_neg (by simp)]
 refine wpAny_binaryOp_repeat_ref (T:="list") (U:="int") (by decide) ⟨_,e,rfl⟩ (λs'=>typeIs_int s' k t) noFill_list_mul F.fills_int_mul F.slot_int_rmul repeat_list F.slot_int_index.lookup
  (call_meets F.slot_int_rmul (typeIs_int s k t) F.entry_int_rmul (F.args_int_rmul_2 _ _) (int___rmul___int_list k t l its.toArray n)
   ⟨e,rfl,⟨_,e,rfl⟩,call_meets F.slot_list_mul ⟨_,e,rfl⟩ F.entry_list_mul (F.args_list_mul_2 _ _) (AutoListH.list___mul___list_int_3 l its.toArray n k t hfit hcap hlong) ⟨e,?_⟩⟩)
 rw[hnew];exact ⟨.ref _,_,I.lnew (t':=s.toks) (r.rep k.toNat) (by rw[len_rep,cg];exact hz),rfl,q _ I.fresh⟩
end
end L2
namespace Att
open PySem PySem.W PySem.Calls PyProof.Rows
theorem zJ:∀(ns:List Int) (vs:List Value),WellAll P h vs (ns.map WData.int)->IntsAre vs ns:=by
 intro ns
 induction ns with
 | nil =>
  intro vs w;rw[List.map_nil] at w;cases w;exact .nil
 | cons n ns ih =>
  intro vs w;rw[iM] at w;cases w with
  | cons a b =>
   cases a;exact .cons _ _ (ih _ b)
theorem LO {l:OpenLaw} (hn:l.most=some n) 
  (hpre:l.row.toRowW.claim.pre args=true) (hwl:WellAll P h vals args) :
  ∃a vs ns,vals=[Value.ref a]/\args=[WData.list (ns.map WData.int)]/\h.get? a=some { cls:=.type "list",data:=.seq vs.toArray }/\IntsAre vs ns/\ns.length<=n:=by
 have hsh:WShape.hasAll [] args [.list .int]=true:=(pre_splitW hpre).1;have hc:l.pre.holds [] { args:=args }=true:=(pre_splitW hpre).2;obtain ⟨d,r,rfl,h1,h2⟩:=hasAllW_cons hsh;obtain rfl:=hasAllW_nil h2;obtain ⟨xs,rfl,h3⟩:=hasW_list h1;obtain ⟨ns,rfl⟩:=items_int h3
 have hlen:ns.length<=n:=by
  unfold OpenLaw.pre at hc
  have h4:(WTm.not (.lt (.lit (.int (n:Int))) (.len (.arg 0)))).holds [] { args:=[.list (ns.map .int)] }=true:=by
   have h4:=(holds_andW hc).1;rw[hn] at h4;exact h4
  have h5:=condW_of h4 (w_not (w_lt w_lit (w_len_list (w_arg rfl))));rw[aj] at h5;refine Nat.le_of_not_lt λq=>?_
  have q':(n:Int) < ((ns.length:Nat):Int):=by lia
  first
   | (rw[decide_eq_true q'] at h5;exact absurd h5 (by decide))
   | (simp at h5;lia)
 cases hwl with
 | cons w1 w2 =>
  cases w2;cases w1 with
  | list ho hall=>exact ⟨_,_,ns,rfl,rfl,ho,zJ ns _ hall,hlen⟩
theorem LY (l:OpenLaw) (args:List WData):l.row.toRowW.claim.post args (.bool true) args=true :=
 postW_of (r:=l.row.toRowW) (X:=(true == true))
  (show WShape.has [] (.bool true) .bool=true by first | rfl | decide | simp [WShape.has,WShape.arms,WShape.armsAll])
  (show (WTm.eq .res (.lit (.bool true))).value [] { args:=args,res:=some (.bool true),after:=args }=some (.bool (true == true)) from w_eq_bool (w_res rfl) w_lit) rfl
theorem Il {l:OpenLaw} 
  (hn:l.most=some n) (hdf:d.params.defaults=[])
  (call:∀(w:World) (s₀ s₁:Shared) (mg mb:Str->Option Value) (fa:Addr) (o:Obj) (pm cd doc:Value) (a:Addr) (vs:List Value) (ns:List Int),
   Ground q loose [] XP w s₀ mg mb s₁.heap->YP w s₁.heap →
   s₁.heap.get? fa=some o->o.data=.func (docDef d.name d.params d.body d.scope pm cd doc)->s₁.heap.CodeRec cd d.name->mg d.name=some (.ref fa) →
   s₁.heap.get? a=some { cls:=.type "list",data:=.seq vs.toArray }->IntsAre vs ns->ns.length<=n->s₁.gens=#[] →
   codeAny (model l.prog w) callerA (.call (.ref fa) ⟨[.ref a],[]⟩) (λr s'=>r=.ok (.ret (.bool true))/\OldK s₁.heap s'.heap/\s'.os=s₁.os/\AllBare s'.gens) s₁) :
  WalkO q loose XP YP l.row.toRowW d [] (λf vs=>PySem.call f vs):=by
 intro w s₀ s₁ mg mb G Y fa o pm cd doc dV kV ho hd hcd hD hmg hg args vals as hpre hlay hrd hwl hlo;obtain rfl:dV=.none:=Dflts.none hD hdf;obtain rfl:kV=.none:=Dflts.noKw hD;obtain ⟨a,vs,ns,rfl,rfl,hobj,hints,hlen⟩:=LO hn hpre hwl;refine enter_call (codeAny_mono (call w s₀ s₁ mg mb fa o pm cd doc a vs ns G Y ho (fd_plain hd) hcd hmg hobj hints hlen hg) λr s' hq=>?_);obtain ⟨rfl,h2,h3,h4⟩:=hq;exact ⟨.inl ⟨.bool true,.bool true,[],rfl,λ_=>rfl,.bool true,LY l _,λ_=>⟨List.Pairwise.nil,λ_ hm=>(nomatch hm)⟩⟩,h2,h3,h4⟩
section
variable {prog:Program} {w:World} {A:Around} {E:Value->Shared->Prop} {s:Shared} {K:Frag}
end
end Att
namespace L2
open PySem PySem.Spec PyProof.Rows
theorem C0:∀{vs:List Value} {ns:List Int},IntsAre vs ns->c5 (ns.map V.int) vs
 | _,_,.nil=>.nil
 | _,_,.cons n t h=>.cons ⟨t,rfl⟩ (C0 h)
def TN (H:Hp):Prop:=∀b,H b=none\/∃o xs,H b=some (.frz o (.lst xs))
theorem Oh {K:FG9} 
  (KX:K.In s₁.heap) (hns:s₁.heap.Ns mainGlobals mg) (hb:s₁.heap.Ns builtinsNs mb) (hbb:∀x:Str,x≠"__name__"->mb x=bootBuiltins x) (hlim:s₁.heap.NoLimit) (hsr:s₁.heap.NoSeer) (hg:s₁.gens=#[])
  (ha:s₁.heap.get? a=some { cls:=.type "list",data:=.seq vs.toArray }) (hi:IntsAre vs ns) (hl:ns.length<=sizeLine) (hr:kv k callerA)
  (F:∀base:Heap,K.In base->base.Ns mainGlobals mg->cK P w K mg base CX k fa fd [x] sp) (hbind:∀(s:Shared) (u:Value),BindsTo s fd ⟨[u],[]⟩ [(x,u)])
  (hsp:∀H:Hp,TN H->bF K H a (ns.map V.int)->sp [.ref a] H (λv _=>v=.bl true) λ_ _ _=>False)
  (hCX:∀H e s',CX [] H s₁ (λ_ _ _=>False) e s'->False) :
  codeAny (model P w) callerA (.call (.ref fa) ⟨[.ref a],[]⟩) (λr s'=>r=.ok (.ret (.bool true))/\OldK s₁.heap s'.heap/\s'.os=s₁.os/\AllBare s'.gens) s₁:=by
 have rv:=C0 hi;have lenV:=hi.length
 have core:∀H:Hp,TN H->bF K H a (ns.map V.int)->Aa P w H s₁.heap->(∀b,H b≠none->b=a)->(H a≠none->K.lookup a=none) →
   codeAny (model P w) callerA (.call (.ref fa) ⟨[.ref a],[]⟩) (λr s'=>r=.ok (.ret (.bool true))/\OldK s₁.heap s'.heap/\s'.os=s₁.os/\AllBare s'.gens) s₁:=by
  intro H hO hS hok hA hK;have base_of:∀{b:Addr} {o:Obj},s₁.heap.get? b=some o->H b=none->(E8 s₁.heap H).get? b=some o:=λe n=>Ou e n
  have noA:∀{b:Addr} {o:Obj} {es:Array DictEntry} {ep:Nat},s₁.heap.get? b=some o->o.data=.dict es ep->H b=none:=λ{b o es ep} e d=>by
   cases q:H b with
   | none=>rfl
   | some u =>
    have e':b=a:=hA b (by rw[q];simp);subst e';rw[ha] at e;cases e;have d':Data.seq vs.toArray _=Data.dict es ep:=d;cases d'
  have nsK:∀{b:Addr} {m:Str->Option Value},s₁.heap.Ns b m->(E8 s₁.heap H).Ns b m:=λ{b m} ⟨o,es,ep,e,d,r⟩=>⟨o,es,ep,base_of e (noA e d),d,r⟩
  have hKb:K.In (E8 s₁.heap H):=λb o e=>base_of (KX b o e) (by
   cases q:H b with
   | none=>rfl
   | some u =>
    have e':b=a:=hA b (by rw[q];simp);subst e';rw[hK (by rw[q];simp)] at e;cases e)
  have hM:Mod K mg (E8 s₁.heap H):=⟨hKb,nsK hns,⟨mb,nsK hb,hbb⟩,let ⟨mc,h1,h2⟩:=hlim;⟨mc,nsK h1,h2⟩,⟨let ⟨mc,h1,h2⟩:=hsr.statics;⟨mc,nsK h1,h2⟩,let ⟨mm,h1,h2⟩:=hsr.mods;⟨mm,nsK h1,h2⟩,⟨mb,nsK hb,hbb⟩,let ⟨mg',bm,ob,h1,h2,h3,h4,h5⟩:=hsr.main;⟨mg',bm,ob,nsK h1,h2,base_of h3 (by
   cases q:H bm with
   | none=>rfl
   | some u =>
    have e':bm=a:=hA bm (by rw[q];simp);subst e';rw[ha] at h3;cases h3;injection h4 with q4
    exact absurd q4 (by decide)),h4,h5⟩⟩⟩
  have e0:J7 P w K mg (E8 s₁.heap H) callerA [] s₁ H:=⟨rfl,hM,λb o e=>Qv e,Nat.le_of_eq (Mp _ _),trivial,λb hb=>absurd (show b∈([]:List Addr) from hb) (by simp),hok,.of_eq hg⟩;refine codeAny_mono ((F _ hKb (nsK hns)).run callerA [] s₁ H ⟨[.ref a],[]⟩ [.ref a] [.ref a] _ _ hr e0 (hbind s₁ (.ref a)) (.cons rfl .nil) (hsp H hO hS)) λr s' h=>?_
  cases r with
  | error e=>exact (hCX H e s' h).elim
  | ok fl =>
   cases fl with
   | next=>exact False.elim h
   | brk=>exact False.elim h
   | cont=>exact False.elim h
   | ret u =>
    obtain ⟨v,H',os,bare,un,hok',r',q⟩:=h;have q':v=.bl true:=q;subst q';obtain rfl:u=Value.bool true:=r';refine ⟨rfl,OldK.of_keep λb o e=>?_,os,bare⟩;cases q:H b with
    | none=>exact un.keep b o e q (by intro z;exact absurd (show b∈([]:List Addr) from z) (by simp)) (by simp)
    | some u =>
     rcases hO b with z | ⟨ob,xs,z⟩
     ·rw[q] at z;cases z
     ·have z2:=un.frzs b ob _ z;obtain ⟨e1,_⟩:=hok b _ z;obtain ⟨e2,_⟩:=hok' b _ z2;rw[e] at e1;cases e1;exact e2
 cases hk:K.lookup a with
 | some o =>
  have e:=KX a o hk;rw[ha] at e;cases e;refine core (λ_=>none) (λ_=>.inl rfl) (.inr ⟨_,vs.toArray,_,hk,rfl,rfl,rfl,by rw[aX,lenV];exact hl,by simpa using rv⟩) (λb u z=>by have z':(none:Option HO)=some u:=z;cases z') (λb z=>absurd rfl z) λz=>absurd rfl z
 | none =>
  refine core (λb=>if b=a then some (.frz { cls:=.type "list",data:=.seq vs.toArray } (.lst (ns.map V.int))) else none) (λb=>?_) (.inl (.inr ⟨{ cls:=.type "list",data:=.seq vs.toArray },if_pos rfl⟩)) (λb u z=>?_) (λb z=>?_) λ_=>hk
  ·by_cases hb:b=a
   ·exact .inr ⟨_,_,if_pos hb⟩
   ·exact .inl (if_neg hb)
  ·by_cases hb:b=a
   ·have z':=(if_pos hb).symm.trans z;cases z';subst hb;exact ⟨ha,by rw[aj];exact hl,vs,_,rv,ha⟩
   ·have z':=(if_neg hb).symm.trans z;cases z'
  ·by_cases hb:b=a
   ·exact hb
   ·exact absurd (if_neg hb) z
theorem Pf {l:PySem.W.OpenLaw} {K:Params->FG9} {CX:World->O9} {sp:World->Sp} 
  (hn:l.most=some n) (hn2:n<=sizeLine) (hdf:d.params.defaults=[]) (hr:kv k callerA) (hi:importsNone q=true)
  (hY:∀(w:World) (h:Heap),YP w h->(K w.params).In h)
  (F:∀(w:World) (mg:Str->Option Value) (fa:Addr) (h:Heap),(K w.params).In h->h.Ns mainGlobals mg->mg d.name=some (.ref fa) →
   ∃fd:FuncData,(∀(s:Shared) (u:Value),BindsTo s fd ⟨[u],[]⟩ [(x,u)]) /\
    ∀base:Heap,(K w.params).In base->base.Ns mainGlobals mg->cK l.prog w (K w.params) mg base (CX w) k fa fd [x] (sp w))
  (hsp:∀(w:World) (H:Hp) (a:Addr) (ns:List Int),ns.length<=n->TN H->bF (K w.params) H a (ns.map V.int)->sp w [.ref a] H (λv _=>v=.bl true) λ_ _ _=>False)
  (hCX:∀(w:World) (H:Hp) (s:Shared) (e:Value) (s':Shared),CX w [] H s (λ_ _ _=>False) e s'->False) :
  PySem.W.WalkO q loose XP YP l.row.toRowW d [] (λf vs=>PySem.call f vs):=by
 refine Att.Il hn hdf λw s₀ s₁ mg mb fa o pm cd doc a vs ns G Y ho hd hcd hmg hobj hints hlen hg=>?_
 have KX:=hY w _ Y;obtain ⟨fd,hb,hF⟩:=F w mg fa _ KX G.T.g hmg;exact Oh KX G.T.g G.T.b G.T.builtins G.T.nolimit (G.T.seer hi) hg hobj hints (ag hlen hn2) hr hF hb (λH hO hS=>hsp w H a ns hlen hO hS) λH e s'=>hCX w H s₁ e s'
end L2

namespace L2
open PySem PySem.Spec PyProof.Rows
def inClass (s:Stmt) (j:Nat):Stmt:=match s with
 | .ClassDef _ _ _ body _ _ _ _ _ _ _=>body.getD j (.Pass ⟨0,0,0,0⟩)
 | _=>.Pass ⟨0,0,0,0⟩
def jY (s:Stmt):Arguments:=match s with
 | .FunctionDef _ a _ _ _ _ _ _ _ _=>a
 | _=>{ posonlyargs:=[],args:=[],vararg:=none,kwonlyargs:=[],kw_defaults:=[],kwarg:=none,defaults:=[] }
def jb (s:Stmt):List Stmt:=match s with
 | .FunctionDef _ _ b _ _ _ _ _ _ _=>b
 | _=>[]
def aN (s:Stmt):Scope:=match s with
 | .FunctionDef _ _ _ _ _ _ sc _ _ _=>sc
 | _=>{ kind:=.function,names:=[],isGenerator:=false,isCoroutine:=false }
abbrev fK:O9:=λ_ _ _ _ _ _=>False
abbrev E0:XK:=λ_ _ _=>False
theorem Dv:vH fK X E0:=λ_ _ _ _ _ _ _ h=>h.elim
structure MP (K:FG9) (x qual:Str) (st:Stmt) (f:Addr) (fd:FuncData):Prop where
 ex:∃(oc:Value) (od:Option Addr) (kV doc pm:Value) (an:Option Addr) (cdv ct:Value) (osl:Array (Option Value)),
  fd=PySem.W.fnOf x qual (jY st) (jb st) (aN st) .none kV doc pm an cdv ct/\K.lookup f=some ⟨oc,od,.func fd,osl⟩/\PySem.W.codeIn K cdv qual=true
 kp:PySem.W.keepIn K (.ref f)=true
section
variable {P:Program} {w:World} {K:FG9} {mg:Str->Option Value} {base:Heap}
theorem MP.ok {st:Stmt} (F:MP K x qual st f fd) (S:aU N ps (aN st)) (len:∀vs H Q E,sp vs H Q E->vs.length=ps.length)
  (hbody:∀(cdv:Value) (A:Around) (outer:List Env) (s:Shared) (H:Hp) (vs:List V) (Q:VK) (E:XK),kv k (A.deeper (envOfC qual (aN st) s.heap.objs.size f cdv))->sp vs H Q E →
   ∃t,JY (Mu fK P w K mg base N qual (aN st) f cdv A outer s H E).nox (jb st) t/\t { nx:=λ_ H'=>Q .non H',rt:=Q } (start N vs) H):cK P w K mg base fK (k+1) f fd ps sp:=by
 obtain ⟨oc,od,kV,doc,pm,an,cdv,ct,osl,rfl,lk,hcd⟩:=F.ex;refine Vc lk hcd S len λA outer s H vs Q E hr hsp=>?_
 obtain ⟨t,h,q⟩:=hbody cdv A outer s H vs Q E hr hsp;exact ⟨t,h.nox,q⟩
theorem MP.binds {st:Stmt} (F:MP K x qual st f fd)
  (h:∀(kV doc pm:Value) (an:Option Addr) (cdv ct:Value) (us:List Value),us.length=ps.length->bindArgs (PySem.W.fnOf x qual (jY st) (jb st) (aN st) .none kV doc pm an cdv ct) ⟨us,[]⟩=pure (ps.zip us)):Binds K fd ps []:=by
 obtain ⟨oc,od,kV,doc,pm,an,cdv,ct,osl,rfl,lk,hcd⟩:=F.ex;exact .all (h kV doc pm an cdv ct)
theorem Bs {st:Stmt} {kV doc pm cdv ct:Value} (l:K.lookup f=some ⟨oc,od,.func (PySem.W.fnOf x qual (jY st) (jb st) (aN st) .none kV doc pm an cdv ct),osl⟩)
  (c:PySem.W.codeIn K cdv qual=true) (k:PySem.W.keepIn K (.ref f)=true):MP K x qual st f (PySem.W.fnOf x qual (jY st) (jb st) (aN st) .none kV doc pm an cdv ct):=⟨⟨oc,od,kV,doc,pm,an,cdv,ct,osl,rfl,l,c⟩,k⟩
end
structure Df (K:FG9) (mg:Str->Option Value) (x:Str) (st:Stmt) (ps:List Str) (f:Addr) (fd:FuncData):Prop where
 m:mg x=some (.ref f)
 b:Binds K fd ps []
 F:MP K x x st f fd
structure Dh (K:FG9) (x:Str) (st:Stmt) (f:Addr) (fd:FuncData):Prop where
 a:PySem.W.nsIn K mainGlobals x=some (some (.ref f))
 F:MP K x x st f fd
theorem Vd {K:FG9} {st:Stmt} {kV doc pm cdv ct:Value} (a:PySem.W.nsIn K mainGlobals x=some (some (.ref f))) (l:K.lookup f=some ⟨oc,od,.func (PySem.W.fnOf x x (jY st) (jb st) (aN st) .none kV doc pm an cdv ct),osl⟩) (c:PySem.W.codeIn K cdv x=true) (k:PySem.W.keepIn K (.ref f)=true):Dh K x st f (PySem.W.fnOf x x (jY st) (jb st) (aN st) .none kV doc pm an cdv ct):=⟨a,Bs l c k⟩
theorem Dh.D {K:FG9} {x:Str} {st:Stmt} {f:Addr} {fd:FuncData} {ps:List Str} {mg:Str->Option Value} {h:Heap} (d:Dh K x st f fd) (X:K.In h) (G:h.Ns mainGlobals mg) (hb:∀(kV doc pm:Value) (an:Option Addr) (cdv ct:Value) (us:List Value),us.length=ps.length->bindArgs (PySem.W.fnOf x x (jY st) (jb st) (aN st) .none kV doc pm an cdv ct) ⟨us,[]⟩=pure (ps.zip us):=by walk_at "b"):Df K mg x st ps f fd:=⟨PySem.W.mg_of X G d.a,d.F.binds hb,d.F⟩
theorem cH {X:Cx} {k k':Nat} {f:Addr} {fd:FuncData} {ps:List Str} {sp:Sp} {x:Str} {st:Stmt} {p pos:Pos} {e:Expr} {es:List Expr} {t:TA} (F:cK X.prog X.w X.K X.mg X.base fK k f fd ps sp) (hr:kv k' X.A) (D:Df X.K X.mg x st ps f fd) (ha:PA X (e :: es) t) (hle:k<=k':=by decide) (hg:Gl X x:=by exact rfl) (hdb:(x == ("__debug__":Str))=false:=by decide) (he:starEach (e :: es) X.env=(false,eval e X.env) :: starEach es X.env:=by rfl) (hpl:(backTo pos (starEach es X.env)).any (·.1)=false:=by rfl):PE X (.Call (.Name x p) (e :: es) [] pos) (Nd sp [] E0 t):=Qp F (hr.mono hle) hg D.m D.F.kp D.b .nil Dv ha hdb he hpl
theorem br (h:n<=1000):n < sizeLine:=bp h (by decide)
section
variable {X:Cx}
theorem pv (i:Nat) {x:Str} {pos:Pos} (hN:X.N[i]?=some x:=by rfl) (hv:VV X.env.scope x:=by first | exact Or.inl rfl | exact Or.inr (Or.inl rfl) | exact Or.inr (Or.inr rfl)) (hd:(x == ("__debug__":Str))=false:=by decide)
  (hcd:(x == ("__classdict__":Str))=false:=by decide):PE X (.Name x pos) (Sf i):=S7 hN hv hd hcd
end
theorem Tq {A B:Prop} (h:B):if false=true then A else B:=by
 rw[if_neg bf];exact h
theorem UZ {A B:Prop} (h:A):if true=true then A else B:=by
 rw[if_pos rfl];exact h
theorem iK {c A B:Prop} [Decidable c] (h1:c->A) (h2:¬c->B):if c then A else B:=by
 by_cases h:c
 ·rw[if_pos h];exact h1 h
 ·rw[if_neg h];exact h2 h
def aI (H H':Hp):Prop:=∀b o,H b=some o->H' b=some o
theorem aI.refl (H:Hp):aI H H:=λ_ _ h=>h
theorem aI.trans (a:aI H H1) (b:aI H1 H2):aI H H2:=λc o h=>b c o (a c o h)
theorem aI.free (e:aI H H') (h:H' l=Option.none):H l=Option.none:=by
 cases q:H l with
 | none=>rfl
 | some o =>
  rw[e l o q] at h;cases h
theorem aI.seq {K:FG9} (e:aI H H') (h:bF K H a xs):bF K H' a xs:=by
 rcases h with (h | ⟨o,h⟩) | h
 ·exact .inl (.inl (e _ _ h))
 ·exact .inl (.inr ⟨o,e _ _ h⟩)
 ·exact .inr h
end L2
namespace Nm
theorem Oy (a b:Int):Int.gcd b (a.fmod b)=Int.gcd a b:=by
 rw[Int.fmod_def,ju a b];apply Nat.dvd_antisymm
 ·apply O5
  ·exact fz ..
  ·have h1:=fz (a:=b) (b:=a - b*a.fdiv b);have h2:=fQ (a:=b) (b:=a - b*a.fdiv b);have h3:=Int.dvd_add h2 (mH (c:=a.fdiv b) h1);rwa [Int.sub_add_cancel] at h3
 ·apply O5
  ·exact fz ..
  ·exact Int.dvd_sub (fQ ..) (mH (fz ..))
theorem Oz (a b:Int):Int.gcd b (a % b)=Int.gcd a b:=by
 rw[Int.emod_def,ju a b];apply Nat.dvd_antisymm
 ·apply O5
  ·exact fz ..
  ·have h1:=fz (a:=b) (b:=a - b*(a / b));have h2:=fQ (a:=b) (b:=a - b*(a / b));have h3:=Int.dvd_add h2 (mH (c:=a / b) h1);rwa [Int.sub_add_cancel] at h3
 ·apply O5
  ·exact fz ..
  ·exact Int.dvd_sub (fQ ..) (mH (fz ..))
theorem QI (a b:Int) (h:b≠0):(a.fmod b).natAbs < b.natAbs:=by
 rcases Int.lt_or_gt_of_ne h with h | h
 ·have e:a.fmod b=-((-a).fmod (-b)):=by
   have:=Int.neg_fmod_neg (-a) (-b);simp only[Int.neg_neg] at this;exact this
  have h1:=Int.fmod_nonneg_of_pos (-a) (b:=-b) (by lia);have h2:=Int.fmod_lt_of_pos (-a) (b:=-b) (by lia)
  lia
 ·have h1:=Int.fmod_nonneg_of_pos a h;have h2:=Int.fmod_lt_of_pos a h
  lia
def g (t b:Int):Int:=(Int.gcd t b:Int)
def lo (t b:Int):Int:=t / g t b
def hi (t b:Int):Int:=b / g t b
theorem Br (h:b≠0):0 < g t b:=by
 unfold g;have:0 < Int.gcd t b:=Pe _ h
 lia
theorem Bi (t b:Int):lo t b*g t b=t:=Int.ediv_mul_cancel (fz ..)
theorem yd (t b:Int):hi t b*g t b=b:=Int.ediv_mul_cancel (fQ ..)
theorem JH (h:0 < b):0 < hi t b:=by
 have h1:=Br (t:=t) (b:=b) (by lia);have h2:=yd t b;by_cases h3:0 < hi t b
 ·exact h3
 ·have:hi t b*g t b<=0:=Int.mul_nonpos_of_nonpos_of_nonneg (by lia) (by lia)
  lia
theorem G9 (h:b≠0):Int.gcd (lo t b) (hi t b)=1:=by
 have h1:=Br (t:=t) h;have e:=Int.gcd_mul_right (lo t b) (g t b) (hi t b);rw[Bi,yd] at e;have e2:(g t b).natAbs=Int.gcd t b:=by unfold g;simp
 rw[e2] at e;have h2:0 < Int.gcd t b:=Pe _ h;exact Nat.eq_of_mul_eq_mul_right h2 (by rw[<- e,qQ])
theorem JG (t b:Int):lo t b*b=t*hi t b:=by
 have h1:=Bi t b;have h2:=yd t b
 calc lo t b*b=lo t b*(hi t b*g t b):=by rw[h2]
  _=(lo t b*g t b)*hi t b:=by rw[kJ (hi t b),<- lH]
  _=t*hi t b:=by rw[h1]
theorem qe (h:Int.gcd a b=1) (hd:a∣b*c):a∣c:=by
 have h1:a.natAbs∣b.natAbs*c.natAbs:=by rw[<- dZ];exact ik.mpr hd
 have h2:Nat.Coprime a.natAbs b.natAbs:=h;exact ik.mp (h2.dvd_of_dvd_mul_left h1)
theorem uniq (hb:0 < b) (hd:0 < d) (h1:Int.gcd a b=1) (h2:Int.gcd c d=1) (e:a*d=c*b):a=c/\b=d:=by
 have e1:b∣d:=by
  have:b∣a*d:=⟨c,by rw[e,kJ]⟩;exact qe (by rw[ju];exact h1) this
 have e2:d∣b:=by
  have:d∣c*b:=⟨a,by rw[<- e,kJ]⟩;exact qe (by rw[ju];exact h2) this
 have e3:b=d:=Int.dvd_antisymm (by lia) (by lia) e1 e2;subst e3;exact ⟨RT (by lia) e,rfl⟩
theorem oh {a b:Int} (h:b≠0):a.natAbs<=(a*b).natAbs:=by
 rw[dZ];exact dy _ (Int.natAbs_pos.mpr h)
theorem lo_le (h:b≠0):(lo t b).natAbs<=t.natAbs:=by
 have:=oh (a:=lo t b) (b:=g t b) (by have:=Br (t:=t) h;lia);rwa [Bi] at this
theorem RE (h:b≠0):(hi t b).natAbs<=b.natAbs:=by
 have:=oh (a:=hi t b) (b:=g t b) (by have:=Br (t:=t) h;lia);rwa [yd] at this
def Sz (k:Nat) (x:Int):Prop:=x.natAbs < 2^k
theorem Sz.mono (h:Sz j x) (l:j<=k):Sz k x:=bx h (av (by decide) l)
theorem Sz.mul (h1:Sz j x) (h2:Sz k y):Sz (j+k) (x*y):=by
 unfold Sz at *
 rw[dZ,aF];exact Nat.mul_lt_mul'' h1 h2
theorem Sz.neg (h:Sz k x):Sz k (-x):=by unfold Sz at *;rw[uV];exact h
theorem Sz.le (h:Sz k y) (l:x.natAbs<=y.natAbs):Sz k x:=bp l h
theorem Sz.hi {k:Nat} {t b:Int} (h:Sz k b) (hb:b≠0):Sz k (hi t b):=h.le (RE hb)
end Nm
namespace L2
open PySem PySem.Spec PyProof.Rows
structure Bk (env:Env) (scope:Scope) (own capN:List Str):Prop where
 kind:scope.kind=.function
 locs:∀y∈scope.names,y.2=.local->scope.names.lookup y.1=some .local
 ownk:∀x∈own,scope.names.lookup x=some .local\/scope.names.lookup x=some .cell
 cells:∀y∈scope.names,y.2=.cell->y.1∈own/\y.1∉capN
 frees:∀y∈scope.names,y.2=.free->y.1∈capN/\y.1∉own
 capf:∀x∈capN,scope.names.lookup x=some .free
 caps:∀x∈capN,env.kindOf x=some .cell\/env.kindOf x=some .free
def Vz (scope:Scope) (own capN:List Str):Bool :=
 decide (scope.kind=.function) && scope.names.all (λy=>decide (y.2=.local->scope.names.lookup y.1=some .local) && decide (y.2=.cell->y.1∈own/\y.1∉capN) && decide (y.2=.free->y.1∈capN/\y.1∉own)) &&
 own.all (λx=>decide (scope.names.lookup x=some .local\/scope.names.lookup x=some .cell)) && capN.all λx=>decide (scope.names.lookup x=some .free)
def DU (env:Env):List Str->Bool
 | []=>true
 | x :: r=>(match env.kindOf x with | some .cell=>true | some .free=>true | _=>false) && DU env r
theorem Ih {env:Env}:∀{capN:List Str},DU env capN=true->∀x∈capN,env.kindOf x=some .cell\/env.kindOf x=some .free
 | [],_,_,h=>nomatch h
 | y :: r,h,x,hx=>by
  unfold DU at h;rw[eC] at h;rcases aL.mp hx with e | hx
  ·subst e;have h1:=h.1
   split at h1
   ·rename_i e;exact .inl e
   ·rename_i e;exact .inr e
   ·cases h1
  ·exact Ih h.2 x hx
theorem Bk.of (h1:Vz scope own capN=true) (h2:DU env capN=true):Bk env scope own capN:=by
 unfold Vz at h1;rw[eC,eC,eC,oX,oX,oX] at h1;obtain ⟨⟨⟨a1,a2⟩,a3⟩,a4⟩:=h1
 have a2':∀y∈scope.names,(y.2=.local->scope.names.lookup y.1=some .local)/\(y.2=.cell->y.1∈own/\y.1∉capN)/\(y.2=.free->y.1∈capN/\y.1∉own):=λy hy=>by
  have q:=a2 y hy;rw[eC,eC] at q;exact ⟨of_decide_eq_true q.1.1,of_decide_eq_true q.1.2,of_decide_eq_true q.2⟩
 exact ⟨of_decide_eq_true a1,λy hy=>(a2' y hy).1,λx hx=>of_decide_eq_true (a3 x hx),λy hy=>(a2' y hy).2.1,λy hy=>(a2' y hy).2.2,λx hx=>of_decide_eq_true (a4 x hx),Ih h2⟩
def eJ (env:Env):List (Str×NameKind)->List (Str×Addr)->List (Str×Addr)
 | [],acc=>acc
 | (n,k) :: r,acc=>if k == .free then eJ env r ((n,(env.cells.lookup n).getD 0) :: acc) else eJ env r acc
theorem jd (env:Env):∀(names:List (Str×NameKind)) (acc:List (Str×Addr)),eJ env names acc=eJ env names []++acc
 | [],_=>rfl
 | (n,k) :: r,acc=>by
  unfold eJ
  split
  ·rw[jd env r (_ :: acc),jd env r [_],cJ];rfl
  ·exact jd env r acc
theorem qo (env:Env):∀(names:List (Str×NameKind)) {x:Str} {c:Addr},(x,c)∈eJ env names []->(x,NameKind.free)∈names/\c=(env.cells.lookup x).getD 0
 | [],_,_,h=>nomatch h
 | (n,k) :: r,x,c,h=>by
  unfold eJ at h
  split at h
  ·rename_i hk
   have ek:k=.free:=by simpa using hk
   subst ek;rw[jd] at h;rcases aH.mp h with h | h
   ·have q:=qo env r h;exact ⟨bZ _ q.1,q.2⟩
   ·have e:(x,c)=(n,(env.cells.lookup n).getD 0):=by simpa using h
    cases e;exact ⟨dB,rfl⟩
  ·have q:=qo env r h;exact ⟨bZ _ q.1,q.2⟩
theorem jA {α:Type}:∀{l:List (Str×α)} {x:Str} {c:α},(x,c)∈l->∃d,l.lookup x=some d
 | (k,v) :: r,x,c,h=>by
  rw[kI];cases hb:x == k with
  | true=>exact ⟨v,rfl⟩
  | false =>
   rcases aL.mp h with e | h
   ·cases e;simp at hb
   ·exact jA h
theorem qq (env:Env):∀(names:List (Str×NameKind)) {x:Str},(x,NameKind.free)∈names->∃c,(x,c)∈eJ env names []
 | (n,k) :: r,x,h=>by
  unfold eJ;rcases aL.mp h with e | h
  ·cases e;rw[if_pos (by decide),jd];exact ⟨_,bO _ dB⟩
  ·obtain ⟨c,q⟩:=qq env r h
   split
   ·rw[jd];exact ⟨c,iJ _ q⟩
   ·exact ⟨c,q⟩
theorem BU (h:∀y∈scope.names,y.2=.free->∃c,env.cells.lookup y.1=some c):closureFor scope env=pure (eJ env scope.names []):=by
 have gen:∀(names:List (Str×NameKind)) (acc:List (Str×Addr)) (f:Str×NameKind->List (Str×Addr)->Sem (ForInStep (List (Str×Addr)))),
   (∀name kind cells,f (name,kind) cells=if kind == .free then (do let a <- cellOf env name;pure (.yield ((name,a) :: cells))) else pure (.yield cells)) →
   (∀y∈names,y.2=.free->∃c,env.cells.lookup y.1=some c)->forIn names acc f=pure (eJ env names acc):=by
  intro names
  induction names with
  | nil=>intro acc f hf _;rw[Ef];rfl
  | cons y r ih =>
   intro acc f hf hh;obtain ⟨n,k⟩:=y;rw[Pd,hf];unfold eJ;by_cases hk:(k == NameKind.free)=true
   ·obtain ⟨c,hc⟩:=hh (n,k) dB (by simpa using hk);have hc':env.cells.lookup n=some c:=hc;have e:cellOf env n=pure c:=by unfold cellOf;rw[hc']
    rw[if_pos hk,if_pos hk,e,hc'];simp only[pure_bind,zE];exact ih _ f hf λy hy=>hh y (bZ _ hy)
   ·rw[if_neg hk,if_neg hk];simp only[pure_bind];exact ih _ f hf λy hy=>hh y (bZ _ hy)
 simp only[closureFor];rw[gen scope.names [] _ (λname kind cells=>by cases hkc:kind == NameKind.free <;> simp [hkc]) h];rfl
theorem fV:∀(names:List (Str×NameKind)) (n:Nat) (acc:List (Str×Addr)),cellsFrom n names acc=cellsFrom n names []++acc
 | [],_,_=>rfl
 | (x,k) :: r,n,acc=>by
  unfold cellsFrom
  split
  ·rw[fV r (n+1) (_ :: acc),fV r (n+1) [_],cJ];rfl
  ·exact fV r n acc
theorem kE:∀(names:List (Str×NameKind)) (n:Nat) {x:Str} {c:Addr},(x,c)∈cellsFrom n names []->(x,NameKind.cell)∈names
 | [],_,_,_,h=>nomatch h
 | (y,k) :: r,n,x,c,h=>by
  unfold cellsFrom at h
  split at h
  ·rename_i hk
   have ek:k=.cell:=by simpa using hk
   subst ek;rw[fV] at h;rcases aH.mp h with h | h
   ·exact bZ _ (kE r _ h)
   ·have e:(x,c)=(y,n):=by simpa using h
    cases e;exact dB
  ·exact bZ _ (kE r _ h)
def yj (env:Env) (scope:Scope) (C:Addr):Env :=
 { scope:=relabel scope env,locals:=C,globals:=env.globals,cells:=cellsFrom (C+1) scope.names (eJ env scope.names []),qual:=env.qual,func:=none,code:=env.code,frame:=env.frame,builtins:=env.builtins }
theorem GY 
  (h:Q (newEnv scope s.heap.objs.size g (cellsFrom (s.heap.objs.size+1) scope.names cl) qual none .none (some env) builtinsNs) { s with heap:=pushCells (s.heap.push { cls:=.type "dict",data:=.dict #[] }) scope.names }) :
  wpAny M A (newFunctionEnv scope g cl [] qual none .none (some env)) Q E s:=by
 simp only[newFunctionEnv,Option.isSome_some,if_true];refine wpAny_bind (wpAny_alloc ?_);refine wpAny_bind (wpAny_layCells _ (λname kind cells=>by cases hkc:kind == NameKind.cell <;> simp [hkc]) _ _ _ _ ?_);rw[show ({ s with heap:=s.heap.push { cls:=.type "dict",data:=.dict #[] } }:Shared).heap.objs.size=s.heap.objs.size+1 from Heap.size_push ..];rw[Ef];exact wpAny_bind (wpAny_pure (wpAny_pure h))
theorem vT:∀{k:NameKind},(relabel scope env).names.lookup x=some k->∃k0,scope.names.lookup x=some k0/\(k=k0\/(k0=.free/\k=.cell)):=by
 unfold relabel;show ∀{k:NameKind},(scope.names.map λ(n,k)=>if (k == NameKind.free && env.scope.kind == .function && env.kindOf n == some .cell) then (n,NameKind.cell) else (n,k)).lookup x=some k->_
 induction scope.names with
 | nil=>intro k h;cases h
 | cons y r ih =>
  intro k h;obtain ⟨n,k1⟩:=y;rw[iM,kI] at h;rw[kI];by_cases hc:(k1 == NameKind.free && env.scope.kind == .function && env.kindOf n == some .cell)=true
  ·simp only[hc,if_true] at h;cases hb:x == n with
   | true =>
    simp only[hb] at h
    have e1:k1=.free:=by
     rw[eC,eC] at hc;simpa using hc.1.1
    cases h;exact ⟨k1,rfl,.inr ⟨e1,rfl⟩⟩
   | false=>simp only[hb] at h;exact ih h
  ·have hc':(k1 == NameKind.free && env.scope.kind == .function && env.kindOf n == some .cell)=false:=by simpa using hc
   simp only[hc',jw,if_false] at h;cases hb:x == n with
   | true=>simp only[hb] at h;cases h;exact ⟨_,rfl,.inl rfl⟩
   | false=>simp only[hb] at h;exact ih h
theorem GD:scope.names.lookup x=some .free->(relabel scope env).names.lookup x=some .cell\/(relabel scope env).names.lookup x=some .free:=by
 unfold relabel;show _->(scope.names.map λ(n,k)=>if (k == NameKind.free && env.scope.kind == .function && env.kindOf n == some .cell) then (n,NameKind.cell) else (n,k)).lookup x=some .cell\/(scope.names.map λ(n,k)=>if (k == NameKind.free && env.scope.kind == .function && env.kindOf n == some .cell) then (n,NameKind.cell) else (n,k)).lookup x=some .free
 induction scope.names with
 | nil=>intro h;cases h
 | cons y r ih =>
  intro h;obtain ⟨n,k1⟩:=y;rw[kI] at h;rw[iM];by_cases hc:(k1 == NameKind.free && env.scope.kind == .function && env.kindOf n == some .cell)=true
  ·simp only[hc,if_true,kI];cases hb:x == n with
   | true=>exact .inl rfl
   | false=>rw[hb] at h;exact ih h
  ·have hc':(k1 == NameKind.free && env.scope.kind == .function && env.kindOf n == some .cell)=false:=by simpa using hc
   simp only[hc',jw,if_false,kI];cases hb:x == n with
   | true=>rw[hb] at h;cases h;exact .inr rfl
   | false=>rw[hb] at h;exact ih h
structure Bz where
 s:Shared
 H:Hp
 fp:List Addr
 C:Addr
def zK (X:Cx) (own capN:List Str) (scope:Scope) (Z:Bz):Cx where
 prog:=X.prog
 w:=X.w
 K:=X.K
 mg:=X.mg
 base:=X.base
 A:=X.A
 N:=own++capN
 s₀:=Z.s
 H₀:=Z.H
 env:=yj X.env scope Z.C
 outer:=X.stack
 stack:=X.stack
 ex:=Z.fp
 fn:=λx=>own.contains x
 calm:=true
 pn:=[]
 xe:=λ_ _=>False
section
variable {X:Cx} {pins:List (Addr×Obj)} {σ:St} {own capN:List Str} {scope:Scope} {Z:Bz}
theorem jF (B:Bk X.env scope own capN) (I:Inv X pins σ Z.H Z.s) (h:(yj X.env scope Z.C).cells.lookup x=some c) :
  (x∈own/\(x,c)∈cellsFrom (Z.C+1) scope.names [])\/(x∈capN/\x∉own/\X.env.cells.lookup x=some c):=by
 have h':(cellsFrom (Z.C+1) scope.names (eJ X.env scope.names [])).lookup x=some c:=h;rw[fV] at h';rcases aH.mp (mem_of_lookup h') with m | m
 ·exact .inl ⟨(B.cells _ (kE _ _ m) rfl).1,m⟩
 ·obtain ⟨m1,e⟩:=qo _ _ m;obtain ⟨q1,q2⟩:=B.frees _ m1 rfl;obtain ⟨d,hd⟩:=I.ok.has x (B.caps x q1);rw[hd] at e;exact .inr ⟨q1,q2,by rw[hd,e];rfl⟩
theorem QQ (B:Bk X.env scope own capN) (I:Inv X pins σ Z.H Z.s) (hx:x∈capN) (h:X.env.cells.lookup x=some c):(yj X.env scope Z.C).cells.lookup x=some c:=by
 have hm:(x,NameKind.free)∈scope.names:=mem_of_lookup (B.capf x hx);obtain ⟨c1,m1⟩:=qq X.env scope.names hm
 have hs:∃d,(yj X.env scope Z.C).cells.lookup x=some d:=by
  show ∃d,(cellsFrom (Z.C+1) scope.names (eJ X.env scope.names [])).lookup x=some d
  rw[fV];exact jA (bO _ m1)
 obtain ⟨d,hd⟩:=hs;rcases jF B I hd with ⟨q,m⟩ | ⟨_,_,q⟩
 ·exact absurd hx (B.cells _ (kE _ _ m) rfl).2
 ·rw[h] at q;cases q;exact hd
theorem L4 (h:Heap) (C:Addr) (hC:h.objs.size=C+1) (names:List (Str×NameKind)):CellsOk (pushCells h names) (C+1) (cellsFrom (C+1) names []):=by
 have q:=cellsFrom_ok names h (C+1) [] ⟨λ_ _ hm=>(nomatch hm),List.Pairwise.nil⟩ (by rw[hC];exact au _);rwa [hC] at q
theorem Fl (I:Inv X pins σ Z.H Z.s) (h:X.env.cells.lookup x=some c):@LT.lt Nat instLTNat c Z.s.heap.objs.size:=by
 obtain ⟨v,q⟩:=I.cell x c h;exact q.lt
theorem TJ (I:Inv X pins σ Z.H Z.s) (hc:X.calm=true) (B:Bk X.env scope own capN) (hC:Z.s.heap.objs.size<=Z.C) (hcl:CellsOk h1 (Z.C+1) (cellsFrom (Z.C+1) scope.names []))
  (hf:∀b∈Z.fp,kx X pins Z.H b/\@LT.lt Nat instLTNat b Z.s.heap.objs.size):(zK X own capN scope Z).Ok:=by
 refine ⟨I.ok.mod,B.kind,I.ok.glob,I.ok.blt,hC,λx y c h1 h2=>?_,λx hx=>?_,λx c hx h=>?_,λ_=>I.ok.hd hc,I.ok.frames,.inl rfl,λb hb=>⟨?_,λx c h=>?_⟩,I.bs,ag I.ok.bsz I.sz,λb o e hb=>?_,λb hb hz=>?_,I.stack,I.stkFree⟩
 ·rcases jF B I h1 with ⟨q1,m1⟩ | ⟨q1,n1,m1⟩ <;> rcases jF B I h2 with ⟨q2,m2⟩ | ⟨q2,n2,m2⟩
  ·exact name_of_addr hcl.apart m1 m2
  ·have l1:=(hcl.empty _ _ m1).2;have l2:=Fl I m2
   lia
  ·have l1:=(hcl.empty _ _ m2).2;have l2:=Fl I m1
   lia
  ·exact I.ok.inj x y c m1 m2
 ·have hx':(relabel scope X.env).names.lookup x=some .cell\/(relabel scope X.env).names.lookup x=some .free:=hx
  have hk:scope.names.lookup x=some .cell\/scope.names.lookup x=some .free:=by
   rcases hx' with h | h
   ·obtain ⟨k0,e,q | ⟨q,_⟩⟩:=vT h
    ·exact .inl (by rw[e,<- q])
    ·exact .inr (by rw[e,q])
   ·obtain ⟨k0,e,q | ⟨_,q⟩⟩:=vT h
    ·exact .inr (by rw[e,<- q])
    ·cases q
  show ∃c,(cellsFrom (Z.C+1) scope.names (eJ X.env scope.names [])).lookup x=some c
  rcases hk with h | h
  ·exact T9.mp (Ac scope.names (Z.C+1) _ (.inl h))
  ·obtain ⟨c,m⟩:=qq X.env scope.names (mem_of_lookup h);rw[fV];exact jA (bO _ m)
 ·have ho:x∈own:=by have hx':own.contains x=true:=hx;simpa using hx'
  rcases jF B I h with ⟨_,m⟩ | ⟨_,n,_⟩
  ·have:=(hcl.empty _ _ m).2;have hC':Z.s.heap.objs.size<=Z.C:=hC;show Z.s.heap.objs.size<=c
   lia
  ·exact absurd ho n
 ·intro e;have e':@Eq Nat b Z.C:=e;have:=(hf b hb).2
  lia
 ·have l:=(hf b hb).2;rcases jF B I h with ⟨_,m⟩ | ⟨_,_,m⟩
  ·intro e;have e':@Eq Nat c b:=e;have:=(hcl.empty _ _ m).2
   lia
  ·exact (hf b hb).1.2.2.2.2.1 x c m
 ·obtain ⟨_,_,_,f3,_⟩:=(hf b hb).1;rcases f3 with f3 | f3
  ·exact I.ok.noex b o e f3
  ·exact absurd (bx (Heap.lt_size e) (ag I.ok.bsz f3)) (fG _)
 ·obtain ⟨_,f1,f2,_⟩:=(hf b hb).1;rcases aL.mp (I.stkSub b hz) with e | e
  ·exact f1 e
  ·exact f2 e
def MI (k:Nat) (cap:List Nat) (σ:St):St:=List.replicate k none++cap.map λj=>(σ[j]?).join
def zC (X:Cx) (capN:List Str) (cap:List Nat):Prop:=cap.map (λj=>X.N[j]?)=capN.map some
theorem zC.get (h:zC X capN cap) {i:Nat} (e:capN[i]?=some x):∃j,cap[i]?=some j/\X.N[j]?=some x:=by
 have q:=congrArg (λl=>l[i]?) h;simp only[aB,e,Option.map_some] at q;cases hc:cap[i]? with
 | none=>rw[hc] at q;cases q
 | some j=>rw[hc] at q;exact ⟨j,rfl,by simpa using q⟩
theorem Ij (I:Inv X pins σ Z.H Z.s) (B:Bk X.env scope own capN) (hcap:zC X capN cap)
  (kc:∀x c,X.env.cells.lookup x=some c->∀v,Z.s.heap.IsCell c v->h'.IsCell c v) {i:Nat} (e1:(own++capN)[i]?=some x) (e2:(MI own.length cap σ)[i]?=some (some v)) :
  ∃u,RelV v u/\Look (yj X.env scope Z.C) h' m x u:=by
 have hi:own.length<=i:=by
  by_cases hi:own.length<=i
  ·exact hi
  ·exfalso
   unfold MI at e2;rw[bY (by simpa using hi),zF] at e2
   split at e2 <;> cases e2
 rw[bG hi] at e1;unfold MI at e2;rw[bG (by simpa using hi),bK,aB] at e2;obtain ⟨j,hj,hN⟩:=hcap.get e1;rw[hj] at e2;have e3:(σ[j]?).join=some v:=by simpa using e2
 have e4:σ[j]?=some (some v):=by
  cases q:σ[j]? with
  | none=>rw[q] at e3;cases e3
  | some o=>rw[q] at e3;simp at e3;rw[e3]
 have hx:x∈capN:=ao e1;have hk:=B.caps x hx;obtain ⟨m0,_,hl⟩:=I.loc;obtain ⟨u,r,l⟩:=hl j x v hN e4 (.inr hk);refine ⟨u,r,.inr ⟨GD (B.capf x hx),?_⟩⟩;rcases l with ⟨hk2,_⟩ | ⟨_,c,hc,z⟩
 ·rcases hk with hk | hk
  ·rw[hk] at hk2;cases hk2
  ·rw[hk] at hk2;cases hk2
 ·exact ⟨c,QQ B I hx hc,kc x c hc _ z⟩
theorem Vb (I:Inv X pins σ Z.H Z.s) (h:b∈MO X.stack):@LT.lt Nat instLTNat b Z.s.heap.objs.size:=by
 obtain ⟨_,o,ho,_⟩:=I.stack.mem h;exact Heap.lt_size ho
theorem QN {D:Addr} (I:Inv X pins σ Z.H Z.s) (hc:X.calm=true) (B:Bk X.env scope own capN) (hcap:zC X capN cap) (hC:Z.s.heap.objs.size<=Z.C)
  (hcl:CellsOk h1 (Z.C+1) (cellsFrom (Z.C+1) scope.names [])) (hf:∀b∈Z.fp,kx X pins Z.H b/\@LT.lt Nat instLTNat b Z.s.heap.objs.size)
  (hk:∀b o,Z.s.heap.get? b=some o->h1.get? b=some o) (hn:h1.Ns Z.C λ_=>none) (hD:Z.s.heap.objs.size<=D) (hDC:D≠Z.C) (hoD:h1.get? D=some oD) (hdD:∀v,oD.data≠.cell v) :
  Inv (zK X own capN scope Z) [(D,oD)] (MI own.length cap σ) Z.H { Z.s with heap:=h1,toks:=t1 }:=by
 refine ⟨TJ I hc B hC hcl hf,rfl,I.bare,Un.kept hk,⟨_,hn,λi x v e1 e2 _=>Ij I B hcap (λx c _ v z=>z.keeps hk) e1 e2⟩,λx c h=>?_,I.hok.fresh hC,λx c h=>?_,λp hp=>?_,I.hok.kept hk,?_⟩
 ·rcases jF B I h with ⟨_,m⟩ | ⟨_,_,m⟩
  ·exact ⟨none,(hcl.empty _ _ m).1⟩
  ·obtain ⟨v,q⟩:=I.cell x c m;exact ⟨v,q.keeps hk⟩
 ·rcases jF B I h with ⟨_,m⟩ | ⟨_,_,m⟩
  ·exact I.hok.fresh (by have:=(hcl.empty _ _ m).2;lia)
  ·exact I.freeC x c m
 ·have e:p=(D,oD):=by simpa [zK] using hp
  subst e;exact ⟨hoD,I.hok.fresh hD,hDC,λz=>fG _ (bx (Vb I z) hD),hdD⟩
 ·show (MI own.length cap σ).length=(own++capN).length
  have:=congrArg List.length hcap;simp only[aj] at this;unfold MI;simp [this]
theorem OV {σ':St} (I:Inv X pins σ Z.H Z.s) (B:Bk X.env scope own capN) (hcap:zC X capN cap) (hf:∀b∈Z.fp,kx X pins Z.H b/\@LT.lt Nat instLTNat b Z.s.heap.objs.size)
  (J:Inv (zK X own capN scope Z) pins' σ' H' s'):Inv (zK X own capN scope Z) pins' (MI own.length cap σ) H' s':=by
 refine ⟨J.ok,J.os,J.bare,J.base,?_,J.cell,J.free,J.freeC,J.pin,J.hok,?_⟩
 ·obtain ⟨m,hn,_⟩:=J.loc;refine ⟨m,hn,λi x v e1 e2 _=>Ij I B hcap (λx c hx v z=>?_) e1 e2⟩;obtain ⟨o,ho,hd⟩:=z;obtain ⟨sl,e⟩:=J.base.any ho (I.freeC x c hx) λz=>(hf c z).1.2.2.2.2.1 x c hx rfl
  exact ⟨_,e,hd⟩
 ·show (MI own.length cap σ).length=(own++capN).length
  have:=congrArg List.length hcap;simp only[aj] at this;unfold MI;simp [this]
theorem QP {σ':St} {D:Addr} (I:Inv X pins σ Z.H Z.s) (hf:∀b∈Z.fp,kx X pins Z.H b/\@LT.lt Nat instLTNat b Z.s.heap.objs.size) (hD:Z.s.heap.objs.size<=D)
  (J:Inv (zK X own capN scope Z) [(D,{ cls:=.type "list",data:=.seq its.toArray n })] σ' H' s') (r:c5 ys its) (hz:ys.length<=sizeLine) :
  Inv X pins σ (upd H' D (.lst ys)) s':=by
 have pD:=J.pin (D,{ cls:=.type "list",data:=.seq its.toArray n }) (by simp);have ne:∀{b:Addr} {o:Obj},Z.s.heap.get? b=some o->b≠D:=λe z=>by subst z;exact fG _ (bx (Heap.lt_size e) hD)
 have nt:∀{b:Addr} {u:HO},H' b=some u->b≠D:=λe z=>by rw[z,pD.2.1] at e;cases e
 refine I.call' (ch:=Z.fp) J.os ⟨J.base.keep,J.base.slot,λb o e h hx=>?_,J.base.there,λb xs e=>?_,λb o u e=>?_,λb ps e=>?_⟩ (λb u e=>?_) J.bare λb hb=>?_
 ·rw[bD (ne e)];exact J.base.free b o e h hx
 ·have q:=J.base.tups b xs e;rw[bD (nt q)];exact q
 ·have q:=J.base.frzs b o u e;rw[bD (nt q)];exact q
 ·obtain ⟨more,q⟩:=J.base.tbls b ps e;exact ⟨more,by rw[bD (nt q)];exact q⟩
 ·by_cases hb:b=D
  ·subst hb;rw[aJ] at e;cases e;exact ⟨hz,its,n,r,pD.1⟩
  ·rw[bD hb] at e;exact (J.hok b u e).stay (λc v _ q=>q) (λc q=>by rw[bD (nt q)];exact q) λc xs q=>by rw[bD (nt q)];exact q
 ·obtain ⟨_,f1,_,f3,f4,f5⟩:=(hf b hb).1;exact ⟨f3,f1,f4,f5⟩
end
theorem Se {t:Sem α} {Q Q':α->Shared->Prop} (h:wpAny M A t Q (λ_ _=>False) s) (hQ:∀a s,Q a s->Q' a s):wpAny M A t Q' E s :=
 wpAny_mono h hQ λ_ _ z=>False.elim z
theorem Fi (I:Nat->Shared->Prop)
  (turn:∀(E:Value->Shared->Prop) n s,I n s->wpAny (model prog w) A (pyNext it) (λr s₁=>match r with
   | none=>R (.ok .next) s₁
   | some v=>wpAny (model prog w) A (letOwnedTupleGo target it v) (λ_ s₂=>wpAny (model prog w) A (assign target env v) (λ_ s₃ =>
     wpAny (model prog w) A (forIn ifs true λc r=>if r=true then do let ok <- isTrue c env (eval c env);pure (ForInStep.yield ok) else pure (ForInStep.yield r)) (λok s₄ =>
      if ok=true then wpAny (model prog w) A (eval elt env) (λx s₅=>wpAny (model prog w) A (call (.builtin "list.append") [acc,x]) (λ_ s₆=>∃m,m < n/\I m s₆) E s₅) E s₄
      else ∃m,m < n/\I m s₄) E s₃) E s₂) E s₁) E s)
  (n:Nat) (h:I n s):codeAny (model prog w) A (.compLoop (.ListComp elt [⟨target,iter,ifs,0⟩] scope pos) 0 it acc env) R s:=by
 refine codeAny_loop rfl I (λn s hI=>?_) n h;show wpAny _ A ((compTurn (.ListComp elt [⟨target,iter,ifs,0⟩] scope pos) 0 it acc env).onRaise (λx=>do noteFrame x env;theTreesLotGoes x)) _ _ s
 refine wpAny_noted ?_;rw[compTurn_list];refine wpAny_bind (wpAny_standAt (wpAny_bind (wpAny_mono (turn _ n s hI) (λr s₁ h₁=>?_) λ_ _ h'=>h')));cases r with
 | none=>exact wpAny_pure h₁
 | some v =>
  refine wpAny_bind (wpAny_mono h₁ (λ_ s₂ h₂=>wpAny_bind (wpAny_mono h₂ (λ_ s₃ h₃=>wpAny_bind (wpAny_mono h₃ (λok s₄ h₄=>?_) λ_ _ h'=>h')) λ_ _ h'=>h')) λ_ _ h'=>h');cases ok with
  | false=>exact wpAny_pure ⟨rfl,h₄⟩
  | true =>
   exact wpAny_bind (wpAny_bind (wpAny_mono h₄ (λx s₅ h₅=>wpAny_bind (wpAny_mono h₅ (λ_ s₆ h₆=>wpAny_pure (wpAny_pure ⟨rfl,h₆⟩)) λ_ _ h'=>h')) λ_ _ h'=>h'))
def PF (X:Cx) (ifs:List Expr) (t:TT):Prop :=
 ∀(pins:List (Addr×Obj)) (s:Shared) (σ:St) (H:Hp) (Q:Bool->Hp->Prop),Inv X pins σ H s->t σ H Q →
  wpAny (model X.prog X.w) X.A (forIn ifs true λc r=>if r=true then do let ok <- isTrue c X.env (eval c X.env);pure (ForInStep.yield ok) else pure (ForInStep.yield r)) (TP X pins σ Q) X.xe s
def Ub:TT:=λ_ H Q=>Q true H
theorem cw:PF X [] Ub:=λ_ _ _ H _ I h=>wpAny_tests_nil ⟨H,I,h⟩
theorem NR (h:PT X c t):PF X [c] t:=λpins s σ H Q I hw=>wpAny_tests_one (h pins s σ H Q I hw)
def qE (σ₀:St) (g:TG) (tf:TT) (te:TE) (x:V) (H:Hp) (NY:V->Hp->Prop) (NN:Hp->Prop):Prop :=
 g x σ₀ H λσ2 H2=>tf σ2 H2 λb H3=>if b=true then te σ2 H3 NY else NN H3
def qP (J:It) (σ₀:St) (g:TG) (tf:TT) (te:TE) (Q:VK) (H1:Hp):Prop :=
 ∃W:Nat->Nat->List V->Hp->Prop,(∃m,W 0 m [] H1)/\∀i m ys H,W i m ys H →
  (J.stop i H/\ys.length<=sizeLine/\∀p,H p=none->Q (.ref p) (upd H p (.lst ys))) \/
  (J.go i H/\ys.length < sizeLine/\∃(NY:V->Hp->Prop) (NN:Hp->Prop),(∀y H',NY y H'->∃m',m' < m/\W (i+1) m' (ys++[y]) H')/\(∀H',NN H'->∃m',m' < m/\W (i+1) m' ys H') /\
   ∀x H',J.yld i H x H'->qE σ₀ g tf te x H' NY NN)
def FQ (wi:TI) (k:Nat) (cap:List Nat) (g:TG) (tf:TT) (te:TE):TE:=λσ H Q=>wi σ H λJ H1=>qP J (MI k cap σ) g tf te Q H1
abbrev lobj (its:List Value) (n:Nat):Obj:={ cls:=.type "list",data:=.seq its.toArray n }
section
variable {X:Cx} {own capN:List Str} {cap:List Nat} {scope:Scope} {elt tg iter:Expr} {ifs:List Expr} {pos:Pos} {wi:TI} {g:TG} {tf:TT} {te:TE}
theorem DS (hc:X.calm=true) (B:Bk X.env scope own capN) (hcap:zC X capN cap)
  (hi:PI X tg iter wi) (hg:∀Z,PG (zK X own capN scope Z) tg g) (hf:∀Z,PF (zK X own capN scope Z) ifs tf) (he:∀Z,PE (zK X own capN scope Z) elt te)
  (hs:∀x,foldedSetIterable iter X.env x=pure x) {σ:St} (I:Inv X pins σ H s) (h:FQ wi own.length cap g tf te σ H Q)
  (fin:∀(D C:Addr) (s':Shared) (H':Hp),Inv X pins σ H' s'->kx X pins H' C->(∃m,s'.heap.Ns C m)->Q (.ref D) H'->compPost (model X.prog X.w) X.A X.xe use Qe (.ref D) C (.ok .next) s') :
  wpAny (model X.prog X.w) X.A (comprehension (.ListComp elt [⟨tg,iter,ifs,0⟩] scope pos) scope X.env fpos (newList []) false (eval iter X.env) use) Qe X.xe s:=by
 refine wpAny_comprehension_free (use:=use) rfl hs (BU λy hy hk=>I.ok.has y.1 (B.caps _ (B.frees y hy hk).1)) B.kind B.locs ?_;refine iq (hi pins s σ H _ I h) λv s1 h1=>iq h1 λitv s2 h2=>?_
 obtain ⟨it,fp,tn,J,H2,e,I2,T,st2,f2,W,⟨m0,w0⟩,turn⟩:=h2;subst e;have hfp:∀b∈fp,kx X pins H2 b/\@LT.lt Nat instLTNat b s2.heap.objs.size:=λb hb=>⟨f2 b hb,let ⟨_,e,_⟩:=T.obj _ _ st2 b hb;Heap.lt_size e⟩
 refine wpAny_newObj_type (GY ?_) (bC _);have es:(s2.heap.push { cls:=.type "list",data:=.seq ([]:List Value).toArray }).objs.size=s2.heap.objs.size+1:=Heap.size_push ..
 show codeAny _ _ (.compStart _ 0 (.ref it) (.ref s2.heap.objs.size) { newEnv scope (s2.heap.push { cls:=.type "list",data:=.seq ([]:List Value).toArray }).objs.size X.env.globals (cellsFrom ((s2.heap.push { cls:=.type "list",data:=.seq ([]:List Value).toArray }).objs.size+1) scope.names (eJ X.env scope.names [])) X.env.qual none .none (some X.env) builtinsNs with scope:=relabel scope X.env })
  (compPost (model X.prog X.w) X.A X.xe use Qe (.ref s2.heap.objs.size) (s2.heap.push { cls:=.type "list",data:=.seq ([]:List Value).toArray }).objs.size)
  { s2 with heap:=pushCells ((s2.heap.push { cls:=.type "list",data:=.seq ([]:List Value).toArray }).push { cls:=.type "dict",data:=.dict #[] }) scope.names }
 have hk1:∀b o,(s2.heap.push { cls:=.type "list",data:=.seq ([]:List Value).toArray }).get? b=some o->(pushCells ((s2.heap.push { cls:=.type "list",data:=.seq ([]:List Value).toArray }).push { cls:=.type "dict",data:=.dict #[] }) scope.names).get? b=some o :=
  λb o e=>pushCells_keeps _ _ _ _ (Heap.get?_push_of_some _ e)
 have hk:∀b o,s2.heap.get? b=some o->(pushCells ((s2.heap.push { cls:=.type "list",data:=.seq ([]:List Value).toArray }).push { cls:=.type "dict",data:=.dict #[] }) scope.names).get? b=some o:=λb o e=>hk1 b o (Heap.get?_push_of_some _ e)
 have hoD:=hk1 s2.heap.objs.size _ (Heap.get?_push_size s2.heap (o:={ cls:=.type "list",data:=.seq ([]:List Value).toArray }) rfl);have hn:=(Heap.Ns.new (s2.heap.push { cls:=.type "list",data:=.seq ([]:List Value).toArray }) (.type "dict")).keeps (pushCells_keeps scope.names _);have hcl:=L4 ((s2.heap.push { cls:=.type "list",data:=.seq ([]:List Value).toArray }).push { cls:=.type "dict",data:=.dict #[] }) (s2.heap.objs.size+1) (by rw[Heap.size_push,es]) scope.names;rw[es] at hn ⊢;generalize pushCells ((s2.heap.push { cls:=.type "list",data:=.seq ([]:List Value).toArray }).push { cls:=.type "dict",data:=.dict #[] }) scope.names=h3 at hk hoD hn hcl ⊢;have Z:Bz:=⟨s2,H2,fp,s2.heap.objs.size+1⟩
 have I3:Inv (zK X own capN scope ⟨s2,H2,fp,s2.heap.objs.size+1⟩) [(s2.heap.objs.size,lobj [] 0)] (MI own.length cap σ) H2 { s2 with heap:=h3 } :=
  QN (Z:=⟨s2,H2,fp,s2.heap.objs.size+1⟩) (t1:=s2.toks) I2 hc B hcap (Ee _) hcl hfp hk hn (au _) (cV (jh _)) hoD (λv z=>nomatch z)
 have st3:tn 0 h3:=T.keep _ _ _ st2 λb _ o e=>hk b o e
 have loop:codeAny (model X.prog X.w) X.A (.compLoop (.ListComp elt [⟨tg,iter,ifs,0⟩] scope pos) 0 (.ref it) (.ref s2.heap.objs.size) (yj X.env scope (s2.heap.objs.size+1))) (compPost (model X.prog X.w) X.A X.xe use Qe (.ref s2.heap.objs.size) (s2.heap.objs.size+1)) { s2 with heap:=h3 }:=by
  refine Fi (λm s'=>∃i ys σ' H' its n,Inv (zK X own capN scope ⟨s2,H2,fp,s2.heap.objs.size+1⟩) [(s2.heap.objs.size,lobj its n)] σ' H' s'/\tn i s'.heap/\(∀b∈fp,H' b=none)/\c5 ys its/\W i m ys H') ?_ m0
   ⟨0,[],_,H2,[],0,I3,st3,λb hb=>(f2 b hb).1,.nil,w0⟩
  rintro E n s4 ⟨i,ys,σ4,H4,its,k,I4,st4,fr4,rv,w4⟩
  have fpo:∀{pp:List (Addr×Obj)} {H':Hp},(∀p∈pp,p.1=s2.heap.objs.size)->(∀b∈fp,H' b=none)->∀b∈fp,kx (zK X own capN scope ⟨s2,H2,fp,s2.heap.objs.size+1⟩) pp H' b:=λ{pp H'} hpp hn b hb=>by
   obtain ⟨e1,e2⟩:=I4.ok.exf b hb;refine ⟨hn b hb,e1,I4.ok.exfs b hb,.inl hb,e2,λp hp=>?_⟩;have hp':p∈pp:=by simpa [zK] using hp
   have l:=(hfp b hb).2;rw[hpp p hp'];exact λz=>fG _ (by rw[<- z] at l;exact l)
  have pinD:∀{its:List Value} {n:Nat},∀p∈[(s2.heap.objs.size,lobj its n)],p.1=s2.heap.objs.size:=λp hp=>by simp at hp;rw[hp]
  rcases turn i n ys H4 w4 with ⟨stop,hz,q⟩ | ⟨go,hlt,NY,NN,hNY,hNN,step⟩
  ·refine iq (T.done (zK X own capN scope ⟨s2,H2,fp,s2.heap.objs.size+1⟩) rfl rfl rfl rfl i _ s4 σ4 H4 E I4 (fpo pinD fr4) st4 stop) λr s5 ⟨hr,I5⟩=>?_
   subst hr;have pD:=I5.pin (s2.heap.objs.size,lobj its k) (by simp);have I6:=QP (Z:=⟨s2,H2,fp,s2.heap.objs.size+1⟩) I2 hfp (au _) I5 rv hz
   have hC:upd H4 s2.heap.objs.size (.lst ys) (s2.heap.objs.size+1)=none:=by
    rw[bD (LB (jh _))];exact I5.free
   obtain ⟨m,hm,_⟩:=I5.loc;exact fin _ _ s5 _ I6 (I2.fpOk (Ee _) hC) ⟨m,hm⟩ (q _ pD.2.1)
  ·refine iq (T.item (zK X own capN scope ⟨s2,H2,fp,s2.heap.objs.size+1⟩) rfl rfl rfl rfl i _ s4 σ4 H4 E I4 (fpo pinD fr4) st4 go) λr s5 ⟨u,hr,h5⟩=>?_
   subst hr;refine iq h5 λ_ s6 ⟨x,H6,I6,r6,y6,st6,fr6⟩=>?_
   have I6':=(OV (Z:=⟨s2,H2,fp,s2.heap.objs.size+1⟩) I2 B hcap hfp I6).pinned (fpo pinD fr6) (T.obj _ _ st6)
   have back:∀{σ7:St} {H7:Hp} {s7:Shared},Inv (zK X own capN scope ⟨s2,H2,fp,s2.heap.objs.size+1⟩) ([(s2.heap.objs.size,lobj its k)]++AO fp s6.heap) σ7 H7 s7 →
     Inv (zK X own capN scope ⟨s2,H2,fp,s2.heap.objs.size+1⟩) [(s2.heap.objs.size,lobj its k)] σ7 H7 s7/\tn (i+1) s7.heap/\∀b∈fp,H7 b=none:=λ{σ7 H7 s7} I7=>by
    refine ⟨I7.unpinned,T.keep _ _ _ st6 λb hb o e=>(I7.pin (b,o) (bO _ (bO _ (p7 hb e)))).1,λb hb=>?_⟩;obtain ⟨o,e,d⟩:=T.obj _ _ st6 b hb;exact (I7.pin (b,o) (bO _ (bO _ (p7 hb e)))).2.1
   refine Se (hg _ _ s6 _ H6 x u _ I6' r6 (step x H6 y6)) λ_ s7 ⟨σ7,H7,I7,q7⟩=>?_
   refine Se (hf _ _ s7 σ7 H7 _ I7 q7) λok s8 ⟨H8,I8,q8⟩=>?_
   cases ok with
   | false =>
    rw[if_neg bf] at q8 ⊢;obtain ⟨m',hm,w8⟩:=hNN H8 q8;obtain ⟨J1,J2,J3⟩:=back I8;exact ⟨m',hm,i+1,ys,σ7,H8,its,k,J1,J2,J3,rv,w8⟩
   | true =>
    rw[if_pos rfl] at q8 ⊢;refine Se (he _ _ s8 σ7 H8 _ I8 q8) λz s9 ⟨y,H9,I9,r9,q9⟩=>?_
    obtain ⟨J1,J2,J3⟩:=back I9;obtain ⟨m',hm,w9⟩:=hNY y H9 q9;have pD:=J1.pin (s2.heap.objs.size,lobj its k) (by simp);have hl:=rv.length;refine call_meets F.slot_list_append ⟨_,pD.1,rfl⟩ F.entry_list_append (F.args_list_append_2 _ _) (PySem.list_append s2.heap.objs.size its.toArray k z (by rw[aX];lia)) ⟨pD.1,?_⟩;have e9:=kF pD.1 (λa=>a.push z);have e9':(its.toArray.push z)=(its++[z]).toArray:=by simp
    rw[e9'] at e9;obtain ⟨n',e9⟩:∃n',(s9.heap.update s2.heap.objs.size (Obj.mapSeq λa=>a.push z)).get? s2.heap.objs.size=some (lobj (its++[z]) n'):=⟨_,e9⟩
    have J4:Inv (zK X own capN scope ⟨s2,H2,fp,s2.heap.objs.size+1⟩) [] σ7 H9 { s9 with heap:=s9.heap.update s2.heap.objs.size (Obj.mapSeq λa=>a.push z),toks:=s9.toks } :=
     (J1.pins_of (pins':=[]) λp hp=>nomatch hp).turned (λb o hb e=>(Heap.get?_update_other s9.heap _ (Ne.symm hb)).trans e) pD.2.1 pD.2.2.1 (.inr (au _)) (λx c hx z=>by
      rcases jF (Z:=⟨s2,H2,fp,s2.heap.objs.size+1⟩) B I2 hx with ⟨_,m⟩ | ⟨_,_,m⟩
      ·have:=(hcl.empty _ _ m).2;have z':@Eq Nat c s2.heap.objs.size:=z
       lia
      ·have:=Fl (Z:=⟨s2,H2,fp,s2.heap.objs.size+1⟩) I2 m;rw[z] at this;exact fG _ this) λp hp=>by simp [zK] at hp
    have nfp:∀b∈fp,b≠s2.heap.objs.size:=λb hb z=>by have:=(hfp b hb).2;rw[z] at this;exact fG _ this
    refine ⟨m',hm,i+1,ys++[y],σ7,H9,its++[z],n',J4.pins_of λp hp=>?_,T.keep _ _ _ J2 λb hb o e=>(Heap.get?_update_other s9.heap _ (Ne.symm (nfp b hb))).trans e,J3,rv.append (.cons r9 .nil),w9⟩;have ep:p=(s2.heap.objs.size,lobj (its++[z]) n'):=by simpa using hp
    rw[ep];exact ⟨e9,pD.2.1,pD.2.2.1,pD.2.2.2.1,λv z=>nomatch z⟩
 exact codeAny_compStart_list loop (T.self _ _ _ _ _ st3 loop)
theorem bX (own capN:List Str) (cap:List Nat) (hi:PI X tg iter wi) (hg:∀Z,PG (zK X own capN scope Z) tg g) (hf:∀Z,PF (zK X own capN scope Z) ifs tf) (he:∀Z,PE (zK X own capN scope Z) elt te)
  (h1:Vz scope own capN=true:=by decide +kernel) (h2:DU X.env capN=true:=by rfl) (hcap:zC X capN cap:=by rfl) (hc:X.calm=true:=by rfl) (hs:∀x,foldedSetIterable iter X.env x=pure x:=by intro _;rfl) :
  PE X (.ListComp elt [⟨tg,iter,ifs,0⟩] scope pos) (FQ wi own.length cap g tf te):=by
 intro pins s σ H Q I h;rw[eval_ListComp];refine DS (use:=none) hc (Bk.of h1 h2) hcap hi hg hf he hs I h λD C s' H' I' fC hm q=>?_
 obtain ⟨m,hm⟩:=hm;refine ⟨m,hm,λh' hs'=>?_⟩;obtain ⟨f0,f1,f2,f3,f4,f5⟩:=fC;exact ⟨.ref D,H',I'.turned (t':=s'.toks) (λb o hb e=>(hs'.2 b hb).trans e) f0 f1 f3 f4 f5,rfl,q⟩
theorem mQ (i:Nat) (own capN:List Str) (cap:List Nat) {x:Str} {pos' spos:Pos} (hN:X.N.Nodup) (hi':X.N[i]?=some x) (hx:X.env.scope.names.lookup x=some .local) (hi:PI X tg iter wi) (hg:∀Z,PG (zK X own capN scope Z) tg g) (hf:∀Z,PF (zK X own capN scope Z) ifs tf) (he:∀Z,PE (zK X own capN scope Z) elt te)
  (h1:Vz scope own capN=true:=by decide +kernel) (h2:DU X.env capN=true:=by rfl) (hcap:zC X capN cap:=by rfl) (hc:X.calm=true:=by rfl) (hs:∀x,foldedSetIterable iter X.env x=pure x:=by intro _;rfl)
  (hsw:swapsWith (.ListComp elt [⟨tg,iter,ifs,0⟩] scope pos) (some (.Name x pos')) spos.line X.env=pure true:=by rfl) :
  PS X (.Assign [.Name x pos'] (.ListComp elt [⟨tg,iter,ifs,0⟩] scope pos) spos) (Pj (FQ wi own.length cap g tf te) (K5 i)):=by
 intro pins s σ H D I h;rw[exec_Assign_Name_used _ _ _ _ hsw];refine wpAny_bind (wpAny_standAt (wpAny_bind ?_));rw[arm_evalThenUse_ListComp];refine wpAny_bind (DS (Q:=λv H1=>D.nx (σ.set i (some v)) H1) (use:=some _) hc (Bk.of h1 h2) hcap hi hg hf he hs I h λL C s' H' I' fC hm q=>?_);obtain ⟨m,hm⟩:=hm;obtain ⟨f0,f1,f2,f3,f4,f5⟩:=fC;refine wpAny_assign_Name (C2 I' hN hi' (.inl hx) (v:=.ref L) rfl (λs'' I'' ⟨a,sb,ha⟩=>?_) (.inr hx))
 have hCa:C≠a:=by
  rcases ha with e | e
  ·rw[e];exact f1
  ·exact (f4 x a e).symm
 refine ⟨m,hm.at' λo e=>(sb.2 C hCa).trans e,λh' hs'=>?_⟩;have I3:=I''.turned (h':=h') (t':=s''.toks) (λb o hb e=>(hs'.2 b hb).trans e) f0 f1 f3 f4 f5;exact wpAny_pure (wpAny_pure ⟨_,H',I3,q⟩)
end
section
variable {K:FG9} {a:Addr} {xs:List V} {g:TG} {tf:TT} {te:TE} {Q:VK} {σ₀:St} {H:Hp}
theorem fJ (Pv:Nat->List V->Hp->Prop) (hz:xs.length<=sizeLine) (h0:Pv 0 [] H) (hl:∀i ys H,i<=xs.length->Pv i ys H->bF K H a xs)
  (hs:∀i x ys H,xs[i]?=some x->ys.length<=i->Pv i ys H->qE σ₀ g tf te x H (λy H'=>Pv (i+1) (ys++[y]) H') (λH'=>Pv (i+1) ys H'))
  (hd:∀ys H,ys.length<=xs.length->Pv xs.length ys H->∀p,H p=none->Q (.ref p) (upd H p (.lst ys))):qP (QY K a) σ₀ g tf te Q H:=by
 refine ⟨λi m ys H=>m=xs.length - i/\i<=xs.length/\ys.length<=i/\Pv i ys H,⟨xs.length,by simp,bC _,bC _,h0⟩,?_⟩;rintro i m ys H ⟨rfl,hi,hy,p⟩;have q:=hl i ys H hi p;by_cases hlt:i < xs.length
 ·refine .inr ⟨⟨xs,xs[i],q,by simp [hlt]⟩,by lia,λy H'=>Pv (i+1) (ys++[y]) H',λH'=>Pv (i+1) ys H',λy H' p'=>⟨xs.length - (i+1),by lia,rfl,hlt,by rw[aw,bJ];lia,p'⟩,λH' p'=>⟨xs.length - (i+1),by lia,rfl,hlt,by lia,p'⟩,λx H' y=>?_⟩;obtain ⟨e,y⟩:=y;subst e;exact hs i x ys _ (y xs q) hy p
 ·have e:i=xs.length:=by lia
  subst e;exact .inl ⟨⟨xs,q,au _⟩,by lia,hd ys H hy p⟩
theorem qj {lo:Int} (Pv:Nat->List V->Hp->Prop) (hz:n<=sizeLine) (h0:Pv 0 [] H)
  (hs:∀i ys H,i < n->ys.length<=i->Pv i ys H->qE σ₀ g tf te (.int (lo+i)) H (λy H'=>Pv (i+1) (ys++[y]) H') (λH'=>Pv (i+1) ys H'))
  (hd:∀ys H,ys.length<=n->Pv n ys H->∀p,H p=none->Q (.ref p) (upd H p (.lst ys))):qP (IP lo n) σ₀ g tf te Q H:=by
 refine ⟨λi m ys H=>m=n - i/\i<=n/\ys.length<=i/\Pv i ys H,⟨n,by simp,bC _,bC _,h0⟩,?_⟩;rintro i m ys H ⟨rfl,hi,hy,p⟩;by_cases hlt:i < n
 ·refine .inr ⟨hlt,by lia,λy H'=>Pv (i+1) (ys++[y]) H',λH'=>Pv (i+1) ys H',λy H' p'=>⟨n - (i+1),by lia,rfl,hlt,by rw[aw,bJ];lia,p'⟩,λH' p'=>⟨n - (i+1),by lia,rfl,hlt,by lia,p'⟩,λx H' y=>?_⟩;obtain ⟨e,y⟩:=y;subst e y;exact hs i ys _ hlt hy p
 ·have e:i=n:=by lia
  subst e;exact .inl ⟨au _,by lia,hd ys H hy p⟩
end
open Nm
def iw (i j:Int):Prop:=TY i j\/∃m n,Sz m i/\Sz n j/\m+n<=1000000
def nv (i j:Int):Prop:=j≠0/\Sz 449950 j
theorem BW (h:Sz k i):Builtin.Int.intBits i<=k:=by
 unfold Builtin.Int.intBits;by_cases e:i=0
 ·subst e;simp
 ·have e':(i == 0)=false:=by simpa using e
  rw[e'];have hn:i.natAbs≠0:=by lia
  have:=(Nat.log2_lt hn).mpr h;simp only[jw,if_false]
  lia
theorem iw.ok (h:iw i j):IntMulOk i j:=by
 rcases h with h | ⟨m,n,h1,h2,h3⟩
 ·exact h.ok
 ·have e:(2:Nat)^20=1048576:=by decide
  exact .of_bits (by have:=BW h1;lia) (by have:=BW h2;lia)
section
variable {X:Cx} {a b:Expr} {ta tb:TE} {pos:Pos}
theorem dg:yp X (binaryOp .Mult) (rI iw λi j=>.int (i*j)):=VN λ_ _ _ _ _ _ _ hc q=>mul_int q hc.ok
theorem iQ (hs:X.stack=env :: l) (S:aU N ps sc) (he:env.scope=sc) (hb:env.builtins=builtinsNs) (hg:env.globals=mainGlobals) (ht:X.prog.given.tree=none) (hd:X.A.depth+Builtin.pylongFrames < recursionLimit):yp X (binaryOp .FloorDiv) (rI nv λi j=>.int (i.fdiv j)):=by
 intro pins s σ H x y v u Q I rx ry h;obtain ⟨i,j,rfl,rfl,hc,q⟩:=h;obtain ⟨t,rfl⟩:=rx;obtain ⟨t',rfl⟩:=ry;refine floordiv_int hc.1 ⟨.int _,H,I.tok _,⟨_,rfl⟩,q⟩ (.inr (PySem.PylongRoom.of I.nolimit hd (PySem.SeerAt.of (I.ok.mod.seer.keeps I.bk) ht (env:=env) (l:=l) (by rw[I.ok.frames,hs]) (by rw[he];exact S.gen) (by rw[he];exact S.co) hb hg)))
theorem sY (hr:kv k A):A.depth+Builtin.pylongFrames < recursionLimit:=by have:=hr.dp;show A.depth+100 < _;lia
def Ud (t u:TS):TS:=λD σ H=>∃N:St->Hp->Prop,t { D with nx:=N } σ H/\∀σ' H',N σ' H'->u D σ' H'
theorem gN {st:Stmt} (h1:PS X st t) (h2:JY X rest u):JY X (st :: rest) (Ud t u):=by
 intro pins s σ H D I h;obtain ⟨N,h,k⟩:=h;refine wpAny_execs_cons (iq (h1 pins s σ H { D with nx:=N } I h) λf s1 q=>?_);cases f with
 | next =>
  obtain ⟨σ',H',I',q⟩:=q;exact h2 pins s1 σ' H' D I' (k _ _ q)
 | ret v=>exact q
 | brk=>exact q
 | cont=>exact q
def Rk (K:FG9):V->V->Hp->VK->Prop:=λo i H Q=>∃p xs k v,o=.ref p/\i=.int k/\bF K H p xs/\JT xs k=some v/\Q v H
theorem Ox:Vj X (Rk X.K):=by
 intro pins s σ H o i ov iv Q I ro ri h;obtain ⟨p,xs,k,z,rfl,rfl,hq,he,q⟩:=h;cases ro;obtain ⟨t,rfl⟩:=ri;obtain ⟨its,r,pl,hz⟩:=I.list hq;obtain ⟨j,h1,h2,h3,h4,h5⟩:=Fm he;obtain ⟨w,ew,rw'⟩:=r.get h2;have hl:=r.length;have hn:=Bj;have fin:EP X pins σ Q w s:=⟨z,H,I,rw',q⟩;by_cases h0:0<=k
 ·have hj:k.toNat=j:=by
   rw[seqIndex_of h0 h5] at h1;exact cv h1
  exact wpAny_getItem_list pl.isList h0 (by lia) (by rw[hj];simpa using ew) fin
 ·have hj:(k+(its.toArray.size:Int)).toNat=j:=by
   rw[seqIndex_neg (by lia) h4] at h1;rw[aX,<- hl];exact cv h1
  exact wpAny_getItem_list_neg pl.isList (by lia) (by rw[aX] <;> lia) (by lia) (by rw[hj];simpa using ew) fin
def LV (K:FG9) (T:String):V->Hp->VK->Prop:=λx H Q=>∃t b,ym K H x t/\PySem.W.kitOne K t (.type T)=some b/\Q (.bl b) H
theorem AU {c:Str} {T:String} {p p2:Pos} (hg:Gl X "isinstance") (hm:X.mg "isinstance"=none) (hb:bootBuiltins c=some (.type T)) (hmc:X.mg c=none) (ha:PE X a ta) (hgc:Gl X c:=by rfl) (hn:c≠"__name__":=by decide)
  (hd:(c == ("__debug__":Str))=false:=by decide) (he:starEach [a,.Name c p2] X.env=[(false,eval a X.env),(false,eval (.Name c p2) X.env)]:=by rfl)
  (hpl:(backTo pos (starEach [.Name c p2] X.env)).any (·.1)=false:=by rfl) (he2:starEach [.Name c p2] X.env=[(false,eval (.Name c p2) X.env)]:=by rfl):PE X (.Call (.Name "isinstance" p) [a,.Name c p2] [] pos) (Vx (LV X.K T) ta):=by
 intro pins s σ H Q I h;refine wpAny_Call_Name_kw (kZ I hg hm PyProof.Rows.boot_isinstance ?_);have hA:PA X [a,.Name c p2] (qX ta (qX (tC (.ty T)) IY)):=ae ha (ae (KL hgc hmc hb rfl hn hd) ai he2) (by rw[he,he2])
 have hq:qX ta (qX (tC (.ty T)) IY) σ H (λvs H1=>∃x,vs=[x,.ty T]/\LV X.K T x H1 Q):=by
  show ta σ H λx H1=>∃x',[x,V.ty T]=[x',V.ty T]/\LV X.K T x' H1 Q
  have e:(λx H1=>∃x',[x,V.ty T]=[x',V.ty T]/\LV X.K T x' H1 Q)=λx H1=>LV X.K T x H1 Q:=by
   funext x H1;apply propext;constructor
   ·rintro ⟨x',e,q⟩;cases e;exact q
   ·intro q;exact ⟨x,rfl,q⟩
  rw[e];exact h
 refine PyProof.Rows.callWith_builtin1 (iq (hA pos pins s σ H _ I hq) λus s1 ⟨vs,H1,I1,r1,x,e,q1⟩=>?_) (by rw[he,he2]) hpl;subst e;obtain ⟨u,w',rfl,ru,rt⟩:=vals2 r1;cases rt;obtain ⟨t,bb,ty,ek,q⟩:=q1;exact DE I1 ru ty ek λtk=>⟨.bl bb,H1,I1.tok tk,rfl,q⟩
end
structure Kind (α:Type) [DecidableEq α] where
 R:FG9->Hp->V->α->Prop
 d:Nat
 inj:∀{X:Cx} {pins:List (Addr×Obj)} {σ:St} {H:Hp} {s:Shared} {x:V} {a b:α},Inv X pins σ H s->R X.K H x a->R X.K H x b->a=b
 rc:∀{X:Cx} {pins:List (Addr×Obj)} {σ:St} {H:Hp} {s:Shared} {x y:V} {v u:Value} {a b:α} {A:Around},Inv X pins σ H s->RelV x v->RelV y u->R X.K H x a->R X.K H y b->A.units+d < cLine->SeqAt.RcAt A s v u (decide (a=b))
 ne:∀{X:Cx} {pins:List (Addr×Obj)} {σ:St} {H:Hp} {s:Shared} {x y:V} {v u:Value} {a b:α} {A:Around},Inv X pins σ H s->RelV x v->RelV y u->R X.K H x a->R X.K H y b->A.units+d < cLine->SeqAt.RcNeAt A s v u (!decide (a=b))
 eq:∀{X:Cx} {pins:List (Addr×Obj)} {σ:St} {H:Hp} {s:Shared} {x y:V} {v u:Value} {a b:α} {A:Around},Inv X pins σ H s->RelV x v->RelV y u->R X.K H x a->R X.K H y b->A.units+d < cLine->SeqAt.EqAt A s v u (decide (a=b))
def VR:Kind Int where
 R:=λ_ _ x i=>x=.int i
 d:=0
 inj:=λ_ h1 h2=>by rw[h1] at h2;cases h2;rfl
 rc:=λ{X pins σ H s x y v u a b A} I rx ry h1 h2 _=>by
  subst h1 h2;obtain ⟨t,rfl⟩:=rx;obtain ⟨t',rfl⟩:=ry;have q:=SeqAt.RcAt.int_int (A:=A) (s:=s) a t b t';rwa [il] at q
 ne:=λ{X pins σ H s x y v u a b A} I rx ry h1 h2 _=>by
  subst h1 h2;obtain ⟨t,rfl⟩:=rx;obtain ⟨t',rfl⟩:=ry;have q:=SeqAt.RcNeAt.int_int (A:=A) (s:=s) a t b t';rwa [il] at q
 eq:=λ{X pins σ H s x y v u a b A} I rx ry h1 h2 _=>by
  subst h1 h2;obtain ⟨t,rfl⟩:=rx;obtain ⟨t',rfl⟩:=ry;have q:=SeqAt.EqAt.int_int (A:=A) (s:=s) a t b t';rwa [il] at q
theorem iP {α β:Type} {F:α->β->Prop}:∀{l1:List α} {l2:List β} {i:Nat} (_:Paired F l1 l2) (h1:i < l1.length) (h2:i < l2.length),F l1[i] l2[i]
 | _,_,_,.nil,h1,_=>absurd h1 (di _)
 | _,_,0,.cons r _,_,_=>r
 | _,_,i+1,.cons _ t,h1,h2=>iP (i:=i) t (Nat.lt_of_succ_lt_succ h1) (Nat.lt_of_succ_lt_succ h2)
theorem md {α β:Type} {F:α->β->Prop} (hF:∀a b x,F a x->F b x->a=b):∀{l1 l2:List α} {l:List β},Paired F l1 l->Paired F l2 l->l1=l2
 | _,_,_,.nil,.nil=>rfl
 | _,_,_,.cons r t,.cons r' t'=>by rw[hF _ _ _ r r',md hF t t']
theorem wD {α:Type} [DecidableEq α] (as bs:List α) (h:as.length=bs.length):(List.range as.length).all (λj=>decide (as[j]?=bs[j]?))=decide (as=bs):=by
 rw[lW,oX,decide_eq_true_iff];constructor
 ·intro q;apply nJ;intro i;by_cases hi:i < as.length
  ·exact of_decide_eq_true (q i (kf.mpr hi))
  ·rw[bg (by lia),bg (by lia)]
 ·rintro rfl i _;simp
section
variable {α:Type} [DecidableEq α] (k:Kind α)
theorem Kind.items {X:Cx} {pins:List (Addr×Obj)} {σ:St} {H:Hp} {s:Shared} {A:Around} (I:Inv X pins σ H s) (hA:A.units+k.d < cLine) {xs ys:List V} {us ws:List Value} {as bs:List α}
  (rx:c5 xs us) (ry:c5 ys ws) (ha:Paired (λa x=>k.R X.K H x a) as xs) (hb:Paired (λa x=>k.R X.K H x a) bs ys) :
  ∀j (h1:j < us.toArray.size) (h2:j < ws.toArray.size),SeqAt.EqAt A s us.toArray[j] ws.toArray[j] (decide (as[j]?=bs[j]?)):=λj h1 h2=>by
 have l1:j < us.length:=by simpa using h1
 have l2:j < ws.length:=by simpa using h2
 have e1:=rx.length;have e2:=ry.length;have e3:=ha.length;have e4:=hb.length;obtain ⟨u,hu,ru⟩:=rx.get (i:=j) (x:=xs[j]'(by lia)) (by simp);obtain ⟨w,hw,rw'⟩:=ry.get (i:=j) (x:=ys[j]'(by lia)) (by simp);have q:=k.eq (A:=A) I ru rw' (iP ha (by lia) (by lia)) (iP hb (by lia) (by lia)) hA
 have eu:us.toArray[j]=u:=by
  have:=hu;rw[af l1] at this;simpa using this
 have ew:ws.toArray[j]=w:=by
  have:=hw;rw[af l2] at this;simpa using this
 rw[eu,ew,af (show j < as.length by lia),af (show j < bs.length by lia)];have e5:decide (some as[j]=some bs[j])=decide (as[j]=bs[j]):=by simp
 rw[e5];exact q
theorem Ek {α:Type} [DecidableEq α] (as bs:List α) {n m:Nat} (h1:as.length=n) (h2:bs.length=m):((List.range (min n m)).all (λj=>decide (as[j]?=bs[j]?)) && n == m)=decide (as=bs):=by
 subst h1 h2;by_cases e:as.length=bs.length
 ·rw[show min as.length bs.length=as.length by lia,wD as bs e];simp [e]
 ·have h1:(as.length == bs.length)=false:=by simpa using e
  rw[h1,Bool.and_false];exact (decide_eq_false λz=>e (by rw[z])).symm
def VP:Kind (List α) where
 R:=λK H x as=>∃p xs,x=.ref p/\uQ K H p xs/\Paired (λa x=>k.R K H x a) as xs
 d:=k.d+1
 inj:=λ{X pins σ H s x a b} I h1 h2=>by
  obtain ⟨p,xs,rfl,hp,pa⟩:=h1;obtain ⟨q,ys,e,hq,pb⟩:=h2;cases e;have e:=I.tuple_inj hp hq;subst e;exact md (F:=λa x=>k.R X.K H x a) (λa b x=>k.inj I) pa pb
 rc:=λ{X pins σ H s x y v u a b A} I rx ry h1 h2 hA=>by
  obtain ⟨p,xs,rfl,hp,pa⟩:=h1;obtain ⟨q,ys,rfl,hq,pb⟩:=h2;cases rx;cases ry;obtain ⟨us,r1,t1,_⟩:=I.tuple hp;obtain ⟨ws,r2,t2,_⟩:=I.tuple hq;have z:=SeqAt.RcAt.tuples (A:=A) (e:=λj=>decide (a[j]?=b[j]?)) (show s.heap.IsTuple p us.toArray from t1) (show s.heap.IsTuple q ws.toArray from t2) (by lia) (k.items (A:=A.in1) I (by show A.units+1+k.d < cLine;lia) r1 r2 pa pb);rwa [Ek a b (by rw[pa.length,r1.length];simp) (by rw[pb.length,r2.length];simp)] at z
 ne:=λ{X pins σ H s x y v u a b A} I rx ry h1 h2 hA=>by
  obtain ⟨p,xs,rfl,hp,pa⟩:=h1;obtain ⟨q,ys,rfl,hq,pb⟩:=h2;cases rx;cases ry;obtain ⟨us,r1,t1,_⟩:=I.tuple hp;obtain ⟨ws,r2,t2,_⟩:=I.tuple hq;have z:=SeqAt.RcNeAt.tuples (A:=A) (e:=λj=>decide (a[j]?=b[j]?)) (show s.heap.IsTuple p us.toArray from t1) (show s.heap.IsTuple q ws.toArray from t2) (by lia) (k.items (A:=A.in1) I (by show A.units+1+k.d < cLine;lia) r1 r2 pa pb);rwa [Ek a b (by rw[pa.length,r1.length];simp) (by rw[pb.length,r2.length];simp)] at z
 eq:=λ{X pins σ H s x y v u a b A} I rx ry h1 h2 hA=>by
  obtain ⟨p,xs,rfl,hp,pa⟩:=h1;obtain ⟨q,ys,rfl,hq,pb⟩:=h2;cases rx;cases ry;by_cases e:p=q
  ·subst e;have e:=I.tuple_inj hp hq;subst e;rw[md (F:=λa x=>k.R X.K H x a) (λa b x=>k.inj I) pa pb,decide_eq_true rfl];exact SeqAt.EqAt.same _
  ·obtain ⟨us,r1,t1,_⟩:=I.tuple hp;obtain ⟨ws,r2,t2,_⟩:=I.tuple hq;have z:=SeqAt.RcAt.tuples (A:=A) (e:=λj=>decide (a[j]?=b[j]?)) (show s.heap.IsTuple p us.toArray from t1) (show s.heap.IsTuple q ws.toArray from t2) (by lia) (k.items (A:=A.in1) I (by show A.units+1+k.d < cLine;lia) r1 r2 pa pb);rw[Ek a b (by rw[pa.length,r1.length];simp) (by rw[pb.length,r2.length];simp)] at z;exact .of_refs e z
theorem JE {X:Cx} {pins:List (Addr×Obj)} {σ:St} {H:Hp} {s:Shared} {p q:Addr} {xs ys:List V} {a b:List α} {A:Around} (I:Inv X pins σ H s) (hp:bF X.K H p xs) (hq:bF X.K H q ys)
  (pa:Paired (λa x=>k.R X.K H x a) a xs) (pb:Paired (λa x=>k.R X.K H x a) b ys) (hA:A.units+(k.d+1) < cLine) :
  SeqAt.RcAt A s (.ref p) (.ref q) (decide (a=b))/\SeqAt.RcNeAt A s (.ref p) (.ref q) (!decide (a=b)):=by
 obtain ⟨us,r1,t1,_⟩:=I.list hp;obtain ⟨ws,r2,t2,_⟩:=I.list hq;have l1:=r1.length;have l2:=r2.length;have l3:=pa.length;have l4:=pb.length;by_cases e:us.length=ws.length
 ·have it:=k.items (A:=A.in1) I (by show A.units+1+k.d < cLine;lia) r1 r2 pa pb;have z:=SeqAt.RcAt.lists (A:=A) (e:=λj=>decide (a[j]?=b[j]?)) t1.isList t2.isList (by simpa using e) (by lia) it;have z2:=SeqAt.RcNeAt.lists (A:=A) (e:=λj=>decide (a[j]?=b[j]?)) t1.isList t2.isList (by simpa using e) (by lia) it;have e1:us.toArray.size=a.length:=by rw[aX];lia
  rw[e1,wD a b (by lia)] at z z2;exact ⟨z,z2⟩
 ·have hne:¬a=b:=λz=>e (by have:=congrArg List.length z;lia)
  rw[decide_eq_false hne];exact ⟨SeqAt.RcAt.lists_lengths t1.isList t2.isList (by simpa using e) (by lia),SeqAt.RcNeAt.lists_lengths t1.isList t2.isList (by simpa using e) (by lia)⟩
def UY:Kind (List α) where
 R:=λK H x as=>∃p xs,x=.ref p/\bF K H p xs/\Paired (λa x=>k.R K H x a) as xs
 d:=k.d+1
 inj:=λ{X pins σ H s x a b} I h1 h2=>by
  obtain ⟨p,xs,rfl,hp,pa⟩:=h1;obtain ⟨q,ys,e,hq,pb⟩:=h2;cases e;have e:=I.list_inj hp hq;subst e;exact md (F:=λa x=>k.R X.K H x a) (λa b x=>k.inj I) pa pb
 rc:=λ{X pins σ H s x y v u a b A} I rx ry h1 h2 hA=>by
  obtain ⟨p,xs,rfl,hp,pa⟩:=h1;obtain ⟨q,ys,rfl,hq,pb⟩:=h2;cases rx;cases ry;exact (JE k I hp hq pa pb hA).1
 ne:=λ{X pins σ H s x y v u a b A} I rx ry h1 h2 hA=>by
  obtain ⟨p,xs,rfl,hp,pa⟩:=h1;obtain ⟨q,ys,rfl,hq,pb⟩:=h2;cases rx;cases ry;exact (JE k I hp hq pa pb hA).2
 eq:=λ{X pins σ H s x y v u a b A} I rx ry h1 h2 hA=>by
  obtain ⟨p,xs,rfl,hp,pa⟩:=h1;obtain ⟨q,ys,rfl,hq,pb⟩:=h2;cases rx;cases ry;by_cases e:p=q
  ·subst e;have e:=I.list_inj hp hq;subst e;rw[md (F:=λa x=>k.R X.K H x a) (λa b x=>k.inj I) pa pb,decide_eq_true rfl];exact SeqAt.EqAt.same _
  ·exact .of_refs e (JE k I hp hq pa pb hA).1
def Kind.via {β:Type} [DecidableEq β] (f:β->α) (fi:∀a b,f a=f b->a=b) (R':FG9->Hp->V->β->Prop) (im:∀{K H x b},R' K H x b->k.R K H x (f b)):Kind β where
 R:=R'
 d:=k.d
 inj:=λI h1 h2=>fi _ _ (k.inj I (im h1) (im h2))
 rc:=λ{X pins σ H s x y v u a b A} I rx ry h1 h2 hA=>by
  have z:=k.rc (A:=A) I rx ry (im h1) (im h2) hA;rwa [decide_eq_decide.mpr (show f a=f b↔a=b from ⟨fi a b,λe=>by rw[e]⟩)] at z
 ne:=λ{X pins σ H s x y v u a b A} I rx ry h1 h2 hA=>by
  have z:=k.ne (A:=A) I rx ry (im h1) (im h2) hA;rwa [decide_eq_decide.mpr (show f a=f b↔a=b from ⟨fi a b,λe=>by rw[e]⟩)] at z
 eq:=λ{X pins σ H s x y v u a b A} I rx ry h1 h2 hA=>by
  have z:=k.eq (A:=A) I rx ry (im h1) (im h2) hA;rwa [decide_eq_decide.mpr (show f a=f b↔a=b from ⟨fi a b,λe=>by rw[e]⟩)] at z
end
def J0 (K:FG9) (H:Hp) (x:V) (n:Int×Int):Prop:=∃p,x=.ref p/\uQ K H p [.int n.1,.int n.2]
def VQ:Kind (Int×Int):=(VP VR).via (λn=>[n.1,n.2]) (λa b e=>by cases a;cases b;simp at e;rw[e.1,e.2]) J0 λ⟨p,e,h⟩=>⟨p,_,e,h,.cons rfl (.cons rfl .nil)⟩
def VL (K:FG9):R2:=λx y H Q=>∃(α:Type) (_:DecidableEq α) (k:Kind α) (a b:α),k.d<=50/\k.R K H x a/\k.R K H y b/\Q (.bl (decide (a=b))) H
def UO (K:FG9):R2:=λx y H Q=>∃(α:Type) (_:DecidableEq α) (k:Kind α) (a b:α),k.d<=50/\k.R K H x a/\k.R K H y b/\Q (.bl (!decide (a=b))) H
theorem S9 (hu:X.A.units+50 < cLine):yp X (compareOp .Eq) (VL X.K):=by
 intro pins s σ H x y v u Q I rx ry h;obtain ⟨α,_,k,a,b,hd,ha,hb,q⟩:=h;exact k.rc (A:=X.A) I rx ry ha hb (by lia) _ _ _ _ ⟨.bl (decide (a=b)),H,I,rfl,q⟩
theorem pK (hu:X.A.units+50 < cLine):yp X (compareOp .NotEq) (UO X.K):=by
 intro pins s σ H x y v u Q I rx ry h;obtain ⟨α,_,k,a,b,hd,ha,hb,q⟩:=h;exact k.ne (A:=X.A) I rx ry ha hb (by lia) _ _ _ _ ⟨.bl (!decide (a=b)),H,I,rfl,q⟩
theorem CK (hr:kv k A):A.units+50 < cLine:=by have:=hr.units;lia
def Inner (H:Hp) (p q:Addr):Prop:=∃a b c:Int,H p=some (.lst [.int a,.int b,.int c,.ref q])
def cI (p:Addr) (H H':Hp):Prop:=(∀b o,H b=some o->b≠p->H' b=some o)/\∀q,Inner H p q->Inner H' p q
theorem cI.refl (H:Hp):cI p H H:=⟨λ_ _ h _=>h,λ_ h=>h⟩
theorem cI.trans (a:cI p H H1) (b:cI p H1 H2):cI p H H2:=⟨λc o h n=>b.1 c o (a.1 c o h n) n,λq h=>b.2 q (a.2 q h)⟩
theorem Inner.inj (h:Inner H p q) (h':Inner H p q'):q=q':=by
 obtain ⟨a,b,c,e⟩:=h;obtain ⟨a',b',c',e'⟩:=h';rw[e] at e';have:=HO.lst.inj (cv e');simp at this;exact this.2.2.2
theorem cI.set (h:H p=some (.lst [.int a,.int b,.int c,.ref q])):cI p H (upd H p (.lst [.int a',.int b',.int c',.ref q])) :=
 ⟨λb u h n=>by rw[bD n];exact h,λq' h'=>by
  rw[(Inner.inj ⟨a,b,c,h⟩ h').symm];exact ⟨a',b',c',aJ⟩⟩
theorem aI.upto (h:aI H H'):cI p H H':=⟨λb o e _=>h b o e,λq ⟨a,b,c,e⟩=>⟨a,b,c,h _ _ e⟩⟩
theorem aI.new (h:H p=Option.none):aI H (upd H p o):=λb u e=>by rw[bD (fU e h)];exact e
theorem aI.sqt {K:FG9} (e:aI H H') (h:uQ K H a xs):uQ K H' a xs:=by
 rcases h with (h | ⟨o,h⟩) | h
 ·exact .inl (.inl (e _ _ h))
 ·exact .inl (.inr ⟨o,e _ _ h⟩)
 ·exact .inr h
theorem aI.num {K:FG9} (e:aI H H') (h:J0 K H x n):J0 K H' x n:=by obtain ⟨p,q,r⟩:=h;exact ⟨p,q,e.sqt r⟩
section
variable {σ:St} {H:Hp} {D:Ends}
theorem aQ {t:TS} (e:σ0=σ) (h:t D σ H):t D σ0 H:=by rw[e];exact h
theorem Sy (h:t { D with nx:=u D } σ H):Ue t u D σ H:=h
theorem PU (h:D.nx σ H):Q8 D σ H:=h
theorem SX {g:TG} (h:te σ H λx H1=>g x σ H1 D.nx):Pj te g D σ H:=h
theorem NJ (h:Q (σ.set i (some v)) H):K5 i v σ H Q:=h
theorem SA (h:te σ H D.rt):Ug te D σ H:=h
theorem SN (h:c σ H λb H1=>if b=true then t D σ H1 else u D σ H1):Ul c t u D σ H:=h
theorem P8 (h:te σ H λ_ H1=>D.nx σ H1):Rb te D σ H:=h
theorem SD (h:ta σ H λvs H1=>∃v w,vs=[v,w]/\D.nx ((σ.set i (some v)).set j (some w)) H1):Uh i j ta D σ H:=h
theorem Qc 
  (h:to σ H λo H1=>ti σ H1 λi H2=>tget o i H2 λx H3=>te σ H3 λy H4=>tip x y H4 λz H5=>tset o i z H5 λH6=>D.nx σ H6):Rf to ti te tget tip tset D σ H:=h
theorem SM (h:Q (.int (f i j)) H):ipI f (.int i) (.int j) H Q:=⟨i,j,rfl,rfl,h⟩
theorem SQ {g:TG} (h:wi σ H λJ H1=>∃W:Nat->Nat->St->Hp->Prop,(∃m,W 0 m σ H1)/\∀i m σ H,W i m σ H →
  (J.stop i H/\D.nx σ H)\/(J.go i H/\∃N:St->Hp->Prop,(∀σ' H',N σ' H'->∃m',m' < m/\W (i+1) m' σ' H')/\∀x H',J.yld i H x H'->g x σ H' λσ2 H2=>tb { D with nx:=N,ct:=N,bk:=D.nx } σ2 H2)):Um wi g tb D σ H:=h
variable {Q:VK} {QA:List V->Hp->Prop} {QB:Bool->Hp->Prop}
theorem Sv (e:σ[i]?=some (some v)) (h:Q v H):Sf i σ H Q:=⟨v,e,h⟩
theorem VG (h:Q v H):tC v σ H Q:=h
theorem UG (h:ta σ H λx H1=>tb σ H1 λy H2=>r x y H2 Q):Ui r ta tb σ H Q:=h
theorem Uy (h:ta σ H λx H1=>r x H1 Q):Vx r ta σ H Q:=h
theorem UL {g:Int->Int->V} (h:Q (g i j) H):Qg g (.int i) (.int j) H Q:=⟨i,j,rfl,rfl,h⟩
theorem fY {g:Int->Int->V} (hc:C i j) (h:Q (g i j) H):rI C g (.int i) (.int j) H Q:=⟨i,j,rfl,rfl,hc,h⟩
theorem VH {g:Int->V} (h:Q (g i) H):rU g (.int i) H Q:=⟨i,rfl,h⟩
theorem SV (h:Q (.bl (decide (i=j))) H):VM (.int i) (.int j) H Q:=⟨rfl,by
 have e:decide (V.int i=V.int j)=decide (i=j):=by simp
 rw[e];exact h⟩
theorem SJ (h:Q (.bl (!decide (i=j))) H):VI (.int i) (.int j) H Q:=⟨rfl,by
 have e:decide (V.int i=V.int j)=decide (i=j):=by simp
 rw[e];exact h⟩
theorem SU (h:Q (.bl (decide (i=j))) H):VM (.str i) (.str j) H Q:=⟨rfl,by
 have e:decide (V.str i=V.str j)=decide (i=j):=by simp
 rw[e];exact h⟩
theorem SI (h:Q (.bl (!decide (i=j))) H):VI (.str i) (.str j) H Q:=⟨rfl,by
 have e:decide (V.str i=V.str j)=decide (i=j):=by simp
 rw[e];exact h⟩
theorem PL (h:t σ H λx H'=>∃k,x=.bl k/\QB k H'):Q5 t σ H QB:=h
theorem Uz (h:t σ H λx H'=>∃k,x=.bl k/\QB k H'):tB t σ H QB:=h
theorem SY (h:t σ H λc H1=>if c=true then u σ H1 QB else QB false H1):Uo t u σ H QB:=h
theorem UE (h:t σ H λc H1=>if c=true then QB true H1 else u σ H1 QB):tOr t u σ H QB:=h
theorem SG (h:t σ H λc H1=>QB (!c) H1):Uj t σ H QB:=h
theorem Qd (h:t σ H λx H1=>∃c,x=.bl c/\if c=true then u σ H1 Q else Q (.bl false) H1):Rh t u σ H Q:=h
theorem PR (h:t σ H λx H1=>∃c,x=.bl c/\Q (.bl (!c)) H1):Q7 t σ H Q:=h
theorem SO (h:c σ H λb H1=>if b=true then ta σ H1 Q else tb σ H1 Q):tIf c ta tb σ H Q:=h
theorem Su (h:QB true H):Ub σ H QB:=h
theorem SH (h:QA [] H):IY σ H QA:=h
theorem P9 (h:ta σ H λx H1=>tr σ H1 λxs H2=>QA (x :: xs) H2):qX ta tr σ H QA:=h
theorem Qb (h:t σ H λvs H1=>sp vs H1 Q E):Nd sp [] E t σ H Q:=by
 have e:(λvs H1=>sp (vs++[]) H1 Q E)=λvs H1=>sp vs H1 Q E:=by funext vs H1;rw[lU]
 show t σ H λvs H1=>sp (vs++[]) H1 Q E
 rw[e];exact h
theorem UJ (h:t σ H λvs H1=>r vs H1 Q):VF r t σ H Q:=h
theorem Jp {K:FG9} (hx:uQ K H p xs) (e:JT xs i=some v) (h:Q v H):S0 K (.ref p) (.int i) H Q:=⟨p,xs,i,v,rfl,rfl,hx,e,h⟩
theorem cn {K:FG9} (hx:bF K H p xs) (e:JT xs i=some v) (h:Q v H):S4 K (.ref p) (.int i) H Q:=⟨p,xs,i,v,rfl,rfl,hx,e,h⟩
theorem P7 {K:FG9} (hx:bF K H p xs) (e:JT xs i=some v) (h:Q v H):Rk K (.ref p) (.int i) H Q:=⟨p,xs,i,v,rfl,rfl,hx,e,h⟩
theorem eN (hx:H p=some (.lst xs)) (e:MM xs.length i=some j) (ey:xs.set j v=ys) (h:QH (upd H p (.lst ys))):Rj (.ref p) (.int i) v H QH:=⟨p,xs,i,j,rfl,rfl,hx,e,by rw[ey];exact h⟩
theorem P0 (h:to σ H λo H1=>ti σ H1 λi H2=>t o i v H2 λH3=>QS σ H3):U4 to ti t v σ H QS:=h
theorem NK (h:t v σ H λσ' H'=>u r σ' H' QS):RH t u (v :: r) σ H QS:=⟨v,r,rfl,h⟩
theorem P6 (h:QS σ H):Va [] σ H QS:=⟨rfl,h⟩
theorem PZ {K:FG9} (hx:uQ K H a xs) (hl:xs.length=n) (h:t xs σ H QS):Tw K n t (.ref a) σ H QS:=⟨a,xs,rfl,hx,hl,h⟩
theorem UC (h:te σ H λx H1=>tl σ H1 λl H2=>th σ H2 λu H3=>r x l u H3 Q):tSl r te tl th σ H Q:=h
theorem LU (h:QO none H):Ke σ H QO:=h
theorem PN (h:t σ H λx H1=>∃i,x=.int i/\QO (some i) H1):Q6 t σ H QO:=h
variable {R:It->Hp->Prop} {K:FG9}
theorem NH (h:tl σ H λx H1=>∃a,x=.ref a/\(∃xs,bF K H1 a xs)/\R (QY K a) H1):Ot K tl σ H R:=h
theorem NF (h:ta σ H λvs H1=>∃j:Int,vs=[.int j]/\-(2^62)<=j/\j < 2^62/\R (IP 0 j.toNat) H1):RC ta σ H R:=h
theorem ND (h:ta σ H λvs H1=>∃i j:Int,vs=[.int i,.int j]/\(-(2^62)<=i/\i < 2^62/\-(2^62)<=j/\j < 2^62)/\R (IP i (j - i).toNat) H1):RB ta σ H R:=h
theorem Qa {g:TG} (e:MI k cap σ=σ₀) (h:wi σ H λJ H1=>qP J σ₀ g tf te Q H1):FQ wi k cap g tf te σ H Q:=by
 unfold FQ;rw[e];exact h
theorem PK {g:TG} {NY:V->Hp->Prop} (h:g x σ H λσ2 H2=>tf σ2 H2 λb H3=>if b=true then te σ2 H3 NY else NN H3):qE σ g tf te x H NY NN:=h
theorem UK (h:to σ H λx H1=>VE K T x H1/\t σ H1 λxs H2=>r x xs H2 Q):tBM K T r to t σ H Q:=h
def Vm (Q:VK) (xs:List V) (H:Hp):Prop:=xs.length<=sizeLine/\∀p,H p=none->Q (.ref p) (upd H p (.tup xs))
def Vn (Q:VK) (xs:List V) (H:Hp):Prop:=xs.length<=sizeLine/\∀p,H p=none->Q (.ref p) (upd H p (.lst xs))
theorem Sw (h:t σ H (Vm Q)):Uc t σ H Q:=h
theorem SK (h:t σ H (Vn Q)):Uk t σ H Q:=h
theorem jI (h:Nat.ble n 1000=true):n<=sizeLine:=aT (br (Nat.le_of_ble_eq_true h))
theorem cu {xs:List V} (h:∀p H',aI H H'->H' p=some (.tup xs)->Q (.ref p) H') (hl:Nat.ble xs.length 1000=true:=by rfl):Vm Q xs H :=
 ⟨jI hl,λp hp=>h p _ (aI.new hp) aJ⟩
theorem cS {xs:List V} (h:∀p H',aI H H'->H p=none->H' p=some (.lst xs)->Q (.ref p) H') (hl:Nat.ble xs.length 1000=true:=by rfl):Vn Q xs H :=
 ⟨jI hl,λp hp=>h p _ (aI.new hp) hp aJ⟩
theorem U0 {A B:Prop} (h:B):if (!true)=true then A else B:=Tq h
theorem U1 {A B:Prop} (h:A):if (!false)=true then A else B:=UZ h
def WB (tb:TS) (D:Ends) (Pv:St->Hp->Prop) (μ:St->Hp->Nat) (n:Nat) (σ:St) (H:Hp):Prop:=∃N:St->Hp->Prop,(∀σ' H',N σ' H'->∃m',m' < n/\(m'=μ σ' H'/\Pv σ' H'))/\tb { D with nx:=N,ct:=N,bk:=D.nx } σ H
theorem Ri (h:tb { D with nx:=λσ' H'=>Pv σ' H'/\μ σ' H' < n,ct:=λσ' H'=>Pv σ' H'/\μ σ' H' < n,bk:=D.nx } σ H):WB tb D Pv μ n σ H :=
 ⟨_,λσ' H' ⟨p,l⟩=>⟨_,l,rfl,p⟩,h⟩
theorem Ei (Pv:St->Hp->Prop) (μ:St->Hp->Nat) (h0:Pv σ H) (hs:∀σ H,Pv σ H->c σ H λb H1=>if b=true then WB tb D Pv μ (μ σ H) σ H1 else D.nx σ H1):Na c tb D σ H:=by
 refine ⟨λm σ H=>m=μ σ H/\Pv σ H,⟨_,rfl,h0⟩,?_⟩;rintro m σ H ⟨rfl,p⟩;exact hs σ H p
end
def gh (H:Hp) (p:Addr):Prop:=∃(q:Addr) (a b c:Int) (cs:List Int),H p=some (.lst [.int a,.int b,.int c,.ref q])/\H q=some (.lst (cs.map V.int))/\0<=a/\0<=c/\c<=(cs.length:Int)/\∀x∈cs,(0:Int)<=x
theorem Mz {H:Hp} {cs:List Int} (hp:H p=some (.lst [.int a,.int b,.int c,.ref q])) (hq:H q=some (.lst (cs.map V.int))):q≠p:=λe=>by
 rw[e,hp] at hq;have h:=HO.lst.inj (cv hq);cases cs with
 | nil=>cases h
 | cons x1 cs=>cases cs with
  | nil=>cases h
  | cons x2 cs=>cases cs with
   | nil=>cases h
   | cons x3 cs=>cases cs with
    | nil=>cases h
    | cons x4 cs=>simp at h
theorem gh.same (h:gh H p) (e:aI H H'):gh H' p:=by obtain ⟨q,a,b,c,cs,h1,h2,r⟩:=h;exact ⟨q,a,b,c,cs,e _ _ h1,e _ _ h2,r⟩
theorem cI.tup {H H':Hp} {p r:Addr} {xs:List V} (u:cI p H H') (B:gh H p) (h:H r=some (.tup xs)):H' r=some (.tup xs):=by
 obtain ⟨q,a,b,c,cs,h1,_⟩:=B;exact u.1 r _ h λe=>by rw[e,h1] at h;cases h
theorem cI.other (u:cI p H H') (n:r≠p) (h:H r=some o):H' r=some o:=u.1 r _ h n
theorem gh.inner (h:gh H p):∃q,Inner H p q/\∃xs,H q=some (.lst xs):=by obtain ⟨q,a,b,c,cs,h1,h2,_⟩:=h;exact ⟨q,⟨a,b,c,h1⟩,_,h2⟩
theorem gh.upd (h:gh H p) (hi:Inner H p q) (n1:r≠p) (n2:r≠q):gh (L2.upd H r o) p:=by
 obtain ⟨q',a,b,c,cs,h1,h2,z⟩:=h;have e:q'=q:=Inner.inj ⟨a,b,c,h1⟩ hi;subst e;exact ⟨q',a,b,c,cs,by rw[bD n1.symm];exact h1,by rw[bD n2.symm];exact h2,z⟩
theorem Inner.upd (hi:Inner H p q) (n1:r≠p):Inner (L2.upd H r o) p q:=by obtain ⟨a,b,c,h⟩:=hi;exact ⟨a,b,c,by rw[bD n1.symm];exact h⟩
def Po:Sp:=λvs H Q _=>∃p n,vs=[.ref p,.int n]/\gh H p/\0 < n/\n < 2^64/\∀v H',0<=v->v < n->gh H' p->cI p H H'->Q (.int v) H'
inductive Nq (K:FG9) (vs:List V) (H:Hp) (Q:VK) (E9:XK):Prop
 | mk (a:Addr) (ns:List Int):vs=[.ref a]->bF K H a (ns.map V.int)->ns.length<=63->(∀p H',H p=none->gh H' p->aI H H'->Q (.ref p) H')->Nq K vs H Q E9
inductive Aq (K:FG9) (vs:List V) (H:Hp) (Q:VK) (E9:XK):Prop
 | mk (a:Addr) (ns:List Int):vs=[.ref a]->bF K H a (ns.map V.int)->ns.length<=63->(∀H',Q (.bl true) H')->Aq K vs H Q E9
def Sl:Sp:=λvs H Q _=>∃t b,vs=[.int t,.int b]/\0 < b/\Sz 449950 b/\∀r H',aI H H'->H' r=some (.tup [.int (lo t b),.int (hi t b)])->Q (.ref r) H'
def Uq:Sp:=λvs H Q _=>∃a b,vs=[.int a,.int b]/\Q (.int (g a b)) H
def LM:Sp:=λvs H Q _=>∃t b,vs=[.int t,.int b]/\b≠0/\Sz 449950 b/\∀r H',aI H H'->H' r=some (.tup [.int (lo (if b < 0 then -t else t) (if b < 0 then -b else b)),.int (hi (if b < 0 then -t else t) (if b < 0 then -b else b))])->Q (.ref r) H'
def RI (a b c d:Int):Int:=a*d+c*b
def OG (a b c d:Int):Int:=a*d - c*b
def OF (a _b c _d:Int):Int:=a*c
def Kt (K:FG9) (f:Int->Int->Int->Int->Int):Sp:=λvs H Q _=>∃p q a b c d,vs=[.ref p,.ref q]/\uQ K H p [.int a,.int b]/\uQ K H q [.int c,.int d]/\0 < b/\0 < d/\Sz 200000 a/\Sz 200000 b/\Sz 200000 c/\Sz 200000 d /\
 ∀r H',aI H H'->H' r=some (.tup [.int (lo (f a b c d) (b*d)),.int (hi (f a b c d) (b*d))])->Q (.ref r) H'
theorem bV {α β:Type} {F:α->β->Prop}:∀{l1 l1':List α} {l2 l2':List β},Paired F l1 l2->Paired F l1' l2'->Paired F (l1++l1') (l2++l2')
 | _,_,_,_,.nil,h=>h
 | _,_,_,_,.cons r t,h=>.cons r (bV t h)
theorem dw {h:Heap} (ha:h.get? a=some o) (hb:h.get? b=some u) (hc:o.cls≠u.cls):a≠b:=λe=>by
 subst e;rw[ha] at hb;cases hb;exact hc rfl
theorem lZ (h:a≠b):Value.type a≠Value.type b:=λe=>h (by injection e)
theorem CZ {z TI TO i1 i2 l1 l2:Addr} (hz:IsZip h z TI TO f0) (hTI:IsPair h TI (.ref i1) (.ref i2)) (hTO:IsPair h TO a b)
  (h1:h.IsListIter i1 l1 k1) (h2:h.IsListIter i2 l2 k2) (hl1:h.IsList l1 xs) (hl2:h.IsList l2 ys) (hT:TI≠TO) (hi:i1≠i2):ZipApart z TI TO i1 i2 l1 l2:=by
 obtain ⟨o1,g1,c1,_⟩:=h1;obtain ⟨o2,g2,c2,_⟩:=h2;obtain ⟨p1,q1,d1,_⟩:=hl1;obtain ⟨p2,q2,d2,_⟩:=hl2;refine ⟨dw hTI hz ?_,dw hTO hz ?_,dw g1 hz ?_,dw g2 hz ?_,hT,dw hTI g1 ?_,dw hTI g2 ?_,dw hTO g1 ?_,dw hTO g2 ?_,hi,dw q1 hz ?_,dw q1 hTO ?_,dw q1 g1 ?_,dw q1 g2 ?_,dw q2 hz ?_,dw q2 hTO ?_,dw q2 g1 ?_,dw q2 g2 ?_⟩
 all_goals first
  | (rw[d1];first | (rw[c1];exact lZ (by decide)) | (rw[c2];exact lZ (by decide)) | exact lZ (by decide))
  | (rw[d2];first | (rw[c1];exact lZ (by decide)) | (rw[c2];exact lZ (by decide)) | exact lZ (by decide))
  | (rw[c1];exact lZ (by decide))
  | (rw[c2];exact lZ (by decide))
  | exact lZ (by decide)
def TQ (K : FG9) (l1 l2 : Addr) : It :=
  ⟨λi H => ∃ xs ys x y, bF K H l1 xs /\ bF K H l2 ys /\ xs[i]? = some x /\ ys[i]? = some y,
   λi H v H' => ∃ p x y, v = .ref p /\ H p = none /\ H' = upd H p (.tup [x, y]) /\ (∀ xs, bF K H l1 xs → xs[i]? = some x) /\ ∀ ys, bF K H l2 ys → ys[i]? = some y,
   λi H => ∃ xs ys, bF K H l1 xs /\ bF K H l2 ys /\ (xs.length ≤ i \/ ys.length ≤ i)⟩
def tnZ (z TI TO i1 i2 l1 l2:Addr) (i:Nat) (h:Heap):Prop:=IsZip h z TI TO .none/\IsPair h TI (.ref i1) (.ref i2)/\(∃a b,IsPair h TO a b)/\h.IsListIter i1 l1 i/\h.IsListIter i2 l2 i
theorem M7 {P:Program} {w:World} {K:FG9} {elts:List Expr} {kk:Nat} {tpos:Pos} (z TI TO i1 i2 l1 l2:Addr) (hT:TI≠TO) (hi:i1≠i2):Turn P w K (.Tuple elts kk tpos) (TQ K l1 l2) [z,TI,TO,i1,i2] z (tnZ z TI TO i1 i2 l1 l2) where
 mem:=by simp
 obj:=λi h st b hb=>by
  obtain ⟨hz,hTI,⟨a,c,hTO⟩,⟨o1,g1,c1,d1⟩,⟨o2,g2,c2,d2⟩⟩:=st;simp only[aL,a9,or_false] at hb;rcases hb with rfl | rfl | rfl | rfl | rfl
  ·exact ⟨_,hz,λv q=>nomatch q⟩
  ·exact ⟨_,hTI,λv q=>nomatch q⟩
  ·exact ⟨_,hTO,λv q=>nomatch q⟩
  ·exact ⟨o1,g1,λv q=>by rw[d1] at q;cases q⟩
  ·exact ⟨o2,g2,λv q=>by rw[d2] at q;cases q⟩
 keep:=λi h h' st k=>by
  obtain ⟨hz,hTI,⟨a,c,hTO⟩,h1,h2⟩:=st;exact ⟨k z (by simp) _ hz,k TI (by simp) _ hTI,⟨a,c,k TO (by simp) _ hTO⟩,h1.at λo e=>k i1 (by simp) o e,h2.at λo e=>k i2 (by simp) o e⟩
 item:=by
  intro X hP hw hK hc i pins s σ H E I hf st hg;subst hP hw hK;obtain ⟨hz,hTI,⟨a,c,hTO⟩,h1,h2⟩:=st;obtain ⟨xs,ys,x,y,qx,qy,ex,ey⟩:=hg;obtain ⟨us,rx,px,_⟩:=I.list qx;obtain ⟨ws,ry,py,_⟩:=I.list qy;obtain ⟨u,eu,ru⟩:=rx.get ex;obtain ⟨v,ev,rv⟩:=ry.get ey;have D:=CZ hz hTI hTO h1 h2 px.isList py.isList hT hi;refine wpAny_pyNext_zip_item D hz hTI hTO h1 h2 px.isList py.isList (x:=u) (y:=v) (by simpa using eu) (by simpa using ev) λh' a1 a2 a3 a4 a5 a6 hk=>?_
  refine ⟨_,rfl,wpAny_letOwnedTupleGo_zip a1 λh'' hz'' hs=>?_⟩;have hT0:H s.heap.objs.size=none:=I.hok.fresh (au _);have zne:s.heap.objs.size≠z:=LB (Heap.lt_size hz)
  have up:∀b o,b∉[z,TO,i1,i2]->s.heap.get? b=some o->h''.get? b=some o:=λb o hb e=>by
   simp only[aL,a9,or_false,not_or] at hb;exact (hs.2 b hb.1).trans (hk b o hb.1 hb.2.1 hb.2.2.1 hb.2.2.2 e)
  have fx:∀b∈[z,TO,i1,i2],kx X pins H b:=λb hb=>hf b (by
   simp only[aL,a9,or_false] at hb ⊢;rcases hb with rfl | rfl | rfl | rfl <;> simp)
  have nx:∀b o,H b=some o->b∉[z,TO,i1,i2]:=λb o e hb=>by
   have:=(fx b hb).1;rw[this] at e;cases e
  have nT:∀{b:Addr} {o:HO},H b=some o->b≠s.heap.objs.size:=λe q=>by rw[q,hT0] at e;cases e
  have tup:h''.get? s.heap.objs.size=some { cls:=.type "tuple",data:=.seq #[u,v] }:=(hs.2 _ zne).trans a5
  have I2:Inv X pins σ (upd H s.heap.objs.size (.tup [x,y])) { s with heap:=h'' }:=by
   refine I.step (g':=s.gens) (d':=s.drawn) (t':=s.toks) (ch:=[z,TO,i1,i2]) (λb hb=>?_) (λb o _ _ hb e _=>up b o hb e) (λb o _ _ hb e _=>⟨o.slots,up b o hb e⟩) (λb o hb e n=>?_)
    (λb o hb e=>⟨o,up b o hb e⟩) (λb q e=>by rw[bD (nT e)];exact e) (λb o q e=>by rw[bD (nT e)];exact e) (λb q e=>⟨#[],by rw[bD (nT e),e];simp⟩) (λm hm=>?_) (λb o e=>?_) I.bare
   ·obtain ⟨_,f1,_,f3,f4,f5⟩:=fx b hb;exact ⟨f3,f1,f4,f5⟩
   ·rw[bD (cV (Heap.lt_size e))];exact n
   ·obtain ⟨o,es,ep,ho,r⟩:=hm;exact ⟨o,es,ep,up _ o (λz=>(fx _ z).2.1 rfl) ho,r⟩
   ·by_cases hb:b=s.heap.objs.size
    ·subst hb;rw[aJ] at e;cases e;exact ⟨jI rfl,[u,v],.cons ru (.cons rv .nil),⟨_,tup,rfl,_,rfl⟩⟩
    ·rw[bD hb] at e;refine (I.hok b o e).stay (λc v' hc q=>up c v' ?_ q) (λc q=>by rw[bD (nT q)];exact q) λc xs q=>by rw[bD (nT q)];exact q
     rcases hc with rfl | hc
     ·exact nx _ _ e
     ·exact nx _ _ hc
  refine ⟨.ref s.heap.objs.size,_,I2,rfl,⟨_,x,y,rfl,hT0,rfl,λxs' q=>by rw[I.list_inj q qx];exact ex,λys' q=>by rw[I.list_inj q qy];exact ey⟩,?_,λb hb=>?_⟩
  ·refine ⟨hz'',(hs.2 _ D.TIz).trans (hk _ _ D.TIz D.TITO D.TIi1 D.TIi2 hTI),⟨_,_,(hs.2 _ D.TOz).trans a2⟩,a3.at λo e=>(hs.2 _ D.i1z).trans e,a4.at λo e=>(hs.2 _ D.i2z).trans e⟩
  ·obtain ⟨o,e,_⟩:∃o,s.heap.get? b=some o/\True:=by
    obtain ⟨o1,g1,_⟩:=h1;obtain ⟨o2,g2,_⟩:=h2;simp only[aL,a9,or_false] at hb;rcases hb with rfl | rfl | rfl | rfl | rfl
    ·exact ⟨_,hz,trivial⟩
    ·exact ⟨_,hTI,trivial⟩
    ·exact ⟨_,hTO,trivial⟩
    ·exact ⟨_,g1,trivial⟩
    ·exact ⟨_,g2,trivial⟩
   rw[bD (cV (Heap.lt_size e))];exact (hf b hb).1
 done:=by
  intro X hP hw hK hc i pins s σ H E I hf st hg;subst hP hw hK;obtain ⟨hz,hTI,⟨a,c,hTO⟩,h1,h2⟩:=st;obtain ⟨xs,ys,qx,qy,hend⟩:=hg;obtain ⟨us,rx,px,_⟩:=I.list qx;obtain ⟨ws,ry,py,_⟩:=I.list qy;have lx:=rx.length;have ly:=ry.length;have D:=CZ hz hTI hTO h1 h2 px.isList py.isList hT hi
  refine wpAny_pyNext_zip_end (I.ok.hd hc) D hz hTI hTO h1 h2 px.isList py.isList (by
   rcases hend with q | q
   ·exact .inl (by simp;lia)
   ·exact .inr (by simp;lia)) λh' hk=>⟨rfl,?_⟩
  have up:∀b o,b∉[z,TO,i1,i2]->s.heap.get? b=some o->h'.get? b=some o:=λb o hb e=>by
   simp only[aL,a9,or_false,not_or] at hb;exact hk b o hb.1 hb.2.1 hb.2.2.1 hb.2.2.2 e
  have fx:∀b∈[z,TO,i1,i2],kx X pins H b:=λb hb=>hf b (by
   simp only[aL,a9,or_false] at hb ⊢;rcases hb with rfl | rfl | rfl | rfl <;> simp)
  have nx:∀b o,H b=some o->b∉[z,TO,i1,i2]:=λb o e hb=>by
   have:=(fx b hb).1;rw[this] at e;cases e
  refine I.step (g':=s.gens) (d':=s.drawn) (t':=s.toks) (ch:=[z,TO,i1,i2]) (λb hb=>?_) (λb o _ _ hb e _=>up b o hb e) (λb o _ _ hb e _=>⟨o.slots,up b o hb e⟩) (λb o hb e n=>n)
   (λb o hb e=>⟨o,up b o hb e⟩) (λb q e=>e) (λb o q e=>e) (λb q e=>⟨#[],by rw[e];simp⟩) (λm hm=>?_) (λb o e=>?_) I.bare
  ·obtain ⟨_,f1,_,f3,f4,f5⟩:=fx b hb;exact ⟨f3,f1,f4,f5⟩
  ·obtain ⟨o,es,ep,ho,r⟩:=hm;exact ⟨o,es,ep,up _ o (λz=>(fx _ z).2.1 rfl) ho,r⟩
  ·refine (I.hok b o e).stay (λc v' hc q=>up c v' ?_ q) (λc q=>q) λc xs q=>q
   rcases hc with rfl | hc
   ·exact nx _ _ e
   ·exact nx _ _ hc
 self:=λ_ _ _ _ _ st h=>wpAny_pyIter_zip st.1 h
section
variable {X:Cx}
def Ts (K:FG9) (ta:TA):TI:=λσ H R=>ta σ H λvs H1=>∃l1 l2,vs=[.ref l1,.ref l2]/\(∃xs,bF K H1 l1 xs)/\(∃ys,bF K H1 l2 ys)/\R (TQ K l1 l2) H1
theorem lK {a b:Expr} {ta:TA} {p pos tpos:Pos} {elts:List Expr} {kk:Nat} (hg:Gl X "zip") (hm:X.mg "zip"=none) (ha:PA X [a,b] ta) (hs:starEach [a,b] X.env=[(false,eval a X.env),(false,eval b X.env)]:=by rfl) (hs2:starEach [b] X.env=[(false,eval b X.env)]:=by rfl) :
  PI X (.Tuple elts kk tpos) (.Call (.Name "zip" p) [a,b] [] pos) (Ts X.K ta):=by
 intro pins s σ H R I h;refine Call_ (kZ I hg hm boot_zip (PyProof.Rows.callWith_type1 (iq (ha pos pins s σ H _ I h) λus s1 ⟨vs,H1,I1,r1,q1⟩=>?_) (by rw[hs,hs2]) (by rw[hs2];rfl)));obtain ⟨l1,l2,e,⟨xs,qx⟩,⟨ys,qy⟩,q⟩:=q1;subst e;obtain ⟨u,v,rfl,ru,rv⟩:=vals2 r1;cases ru;cases rv;obtain ⟨us,rx,px,_⟩:=I1.list qx;obtain ⟨ws,ry,py,_⟩:=I1.list qy;refine call_zip_2 px.isList py.isList λh' a1 a2 a3 a4 a5 a6 hk=>wpAny_pyIter_zip a1 ?_
 have I2:Inv X pins σ H1 { s1 with heap:=h' }:=I1.kept (t':=s1.toks) hk;refine ⟨_,[s1.heap.objs.size+4,s1.heap.objs.size+2,s1.heap.objs.size+3,s1.heap.objs.size,s1.heap.objs.size+1],_,_,H1,rfl,I2,M7 (s1.heap.objs.size+4) (s1.heap.objs.size+2) (s1.heap.objs.size+3) s1.heap.objs.size (s1.heap.objs.size+1) l1 l2 (cV (jh _)) (cV (jh _)),⟨a1,a2,⟨_,_,a3⟩,a4,a5⟩,λb hb=>?_,q⟩
 have hb':s1.heap.objs.size<=b:=by
  simp only[aL,a9,or_false] at hb;rcases hb with rfl | rfl | rfl | rfl | rfl <;> first | exact MR _ _ | exact au _
 exact I1.fpOk hb' (I1.hok.fresh hb')
theorem OT (hc:X.calm=true):oV X (.builtin "all") (λxs H Q=>∃(p:Addr) (bs:List Bool),xs=[.ref p]/\bF X.K H p (bs.map V.bl)/\Q (.bl (bs.all id)) H):=by
 intro pins s σ H xs us Q I r h;obtain ⟨p,bs,rfl,hp,q⟩:=h;obtain ⟨u,rfl,ru⟩:=vals1 r;cases ru;obtain ⟨vs,rv,pl,hz⟩:=I.list hp
 have hb:PyProof.Rows.LSm.BoolsAre vs bs:=by
  clear q hp pl hz
  induction bs generalizing vs with
  | nil=>cases rv;exact .nil
  | cons b bs ih =>
   rw[iM] at rv;cases rv with
   | cons r1 r2=>cases r1;exact .cons b (ih _ r2)
 have hlt:p < s.heap.objs.size:=by obtain ⟨_,e,_⟩:=pl.isList;exact Heap.lt_size e
 refine call_all_walk (wpAny_pyIter_list pl.isList ?_)
 refine ⟨s.heap.objs.size,[s.heap.objs.size,p],[s.heap.objs.size],vs.toArray.size,_,_,λi=>(bs[i]?).getD true,rfl,Walks.list (A:=X.A.in1) (I.ok.hd hc) _ p (cV hlt) vs.toArray,
  ⟨⟨_,Heap.get?_push_size _ rfl,rfl,rfl⟩,pl.isList.push _⟩,λi v s' Q' E' hP hQ=>?_,λh' tk hk=>?_⟩
 ·obtain ⟨b,e,rfl⟩:=hb.get i v (by simpa using hP);simp only[e,zE] at hQ;exact wpAny_truthy_bool hQ
 ·have e:((List.range vs.toArray.size).all λi=>(bs[i]?).getD true)=bs.all id:=by
   rw[aX,hb.length];exact PyProof.Rows.LSm.range_all bs
  rw[e];exact ⟨.bl _,H,I.kept (t':=tk) (PyProof.Rows.LSm.kept_iter hk),rfl,q⟩
theorem Ik (hc:X.calm=true):oV X (.builtin "sum") (λxs H Q=>∃(p:Addr) (ns:List Int),xs=[.ref p]/\bF X.K H p (ns.map V.int)/\Q (.int ns.sum) H):=by
 intro pins s σ H xs us Q I r h;obtain ⟨p,ns,rfl,hp,q⟩:=h;obtain ⟨u,rfl,ru⟩:=vals1 r;cases ru;obtain ⟨vs,rv,pl,_⟩:=I.list hp;have hi:IntsAre vs ns:=intsAre_of rv;obtain ⟨xs,hx⟩:=hi.allInts.items;have hl':s.heap.IsList p (intItems xs):=hx ▸ pl.isList;refine sum_intListG (I.ok.hd hc) hl' λh' tk t' hk=>?_
 have e1:ns=xs.toList.map (·.1):=by
  rw[<- nums_intItems,<- hx];exact (show numsOf vs.toArray.toList=ns from hi.numsOf).symm
 have e2:preSum (numAt xs) xs.size=ns.sum:=by
  rw[preSum_eq,aE (by simp),e1]
 rw[e2];exact ⟨.int _,H,I.kept (t':=tk) hk,⟨_,rfl⟩,q⟩
end
section
variable {K:FG9} {l1 l2:Addr} {xs ws:List V} {g:TG} {tf:TT} {te:TE} {Q:VK} {σ₀:St} {H:Hp}
theorem mE (Pv:Nat->List V->Hp->Prop) (hz:xs.length<=sizeLine) (hw:ws.length=xs.length) (h0:Pv 0 [] H) (hl:∀i ys H,i<=xs.length->Pv i ys H->bF K H l1 xs/\bF K H l2 ws)
  (hs:∀i x y ys H p,xs[i]?=some x->ws[i]?=some y->ys.length<=i->Pv i ys H->H p=none->qE σ₀ g tf te (.ref p) (upd H p (.tup [x,y])) (λy H'=>Pv (i+1) (ys++[y]) H') (λH'=>Pv (i+1) ys H'))
  (hd:∀ys H,ys.length<=xs.length->Pv xs.length ys H->∀p,H p=none->Q (.ref p) (upd H p (.lst ys))):qP (TQ K l1 l2) σ₀ g tf te Q H:=by
 refine ⟨λi m ys H=>m=xs.length - i/\i<=xs.length/\ys.length<=i/\Pv i ys H,⟨xs.length,by simp,bC _,bC _,h0⟩,?_⟩;rintro i m ys H ⟨rfl,hi,hy,p⟩;obtain ⟨q1,q2⟩:=hl i ys H hi p;by_cases hlt:i < xs.length
 ·refine .inr ⟨⟨xs,ws,xs[i],ws[i]'(by lia),q1,q2,by simp [hlt],by simp⟩,by lia,λy H'=>Pv (i+1) (ys++[y]) H',λH'=>Pv (i+1) ys H',λy H' p'=>⟨xs.length - (i+1),by lia,rfl,hlt,by rw[aw,bJ];lia,p'⟩,λH' p'=>⟨xs.length - (i+1),by lia,rfl,hlt,by lia,p'⟩,λx H' y=>?_⟩;obtain ⟨r,x',y',rfl,hr,rfl,e1,e2⟩:=y;exact hs i x' y' ys _ r (e1 xs q1) (e2 ws q2) hy p hr
 ·have e:i=xs.length:=by lia
  subst e;exact .inl ⟨⟨xs,ws,q1,q2,.inl (au _)⟩,by lia,hd ys H hy p⟩
theorem K8 {tb:TS} {D:Ends} (Pv:Nat->St->Hp->Prop) (hw:ws.length=xs.length) (h0:Pv 0 σ H) (hl:∀i σ H,i<=xs.length->Pv i σ H->bF K H l1 xs/\bF K H l2 ws)
  (hs:∀i x y σ H p,xs[i]?=some x->ws[i]?=some y->Pv i σ H->H p=none->g (.ref p) σ (upd H p (.tup [x,y])) λσ2 H2=>tb { D with nx:=Pv (i+1),ct:=Pv (i+1),bk:=D.nx } σ2 H2) (hd:∀σ H,Pv xs.length σ H->D.nx σ H) :
  ∃W:Nat->Nat->St->Hp->Prop,(∃m,W 0 m σ H)/\∀i m σ H,W i m σ H →
   ((TQ K l1 l2).stop i H/\D.nx σ H)\/((TQ K l1 l2).go i H/\∃N:St->Hp->Prop,(∀σ' H',N σ' H'->∃m',m' < m/\W (i+1) m' σ' H')/\∀x H',(TQ K l1 l2).yld i H x H'->g x σ H' λσ2 H2=>tb { D with nx:=N,ct:=N,bk:=D.nx } σ2 H2):=by
 refine ⟨λi m σ H=>m=xs.length - i/\i<=xs.length/\Pv i σ H,⟨xs.length,by simp,bC _,h0⟩,?_⟩;rintro i m σ H ⟨rfl,hi,p⟩;obtain ⟨q1,q2⟩:=hl i σ H hi p;by_cases hlt:i < xs.length
 ·refine .inr ⟨⟨xs,ws,xs[i],ws[i]'(by lia),q1,q2,by simp [hlt],by simp⟩,Pv (i+1),λσ' H' p'=>⟨xs.length - (i+1),by lia,rfl,hlt,p'⟩,λx H' y=>?_⟩;obtain ⟨r,x',y',rfl,hr,rfl,e1,e2⟩:=y;exact hs i x' y' σ _ r (e1 xs q1) (e2 ws q2) p hr
 ·have e:i=xs.length:=by lia
  subst e;exact .inl ⟨⟨xs,ws,q1,q2,.inl (au _)⟩,hd σ H p⟩
end
section
variable {X:Cx}
theorem kz (K:FG9) (n:Nat) {es:List Expr} {k:Nat} {pos:Pos} {t:O8} (h:Vi X es t) (hK:X.K=K:=by rfl) (hc:X.calm=true:=by rfl)
  (hn:(assignEach es X.env).length=n:=by rfl) (hst:(assignEach es X.env).findIdx? (·.1)=none:=by rfl):PG X (.Tuple es k pos) (Tw K n t):=by subst hK;exact rX hc h hn hst
theorem p9 (K:FG9) (hK:X.K=K):Vo X (S0 K):=by subst hK;exact bU
theorem oM (K:FG9) (hK:X.K=K):Vo X (S4 K):=by subst hK;exact bA
theorem Qq (K:FG9) (hK:X.K=K) (hu:X.A.units+50 < cLine):yp X (compareOp .NotEq) (UO K):=by subst hK;exact pK hu
theorem AQ (K:FG9) {tg l:Expr} {tl:TE} (hl:PE X l tl) (hK:X.K=K:=by rfl):PI X tg l (Ot K tl):=by subst hK;exact cB hl
end
theorem eX {X:Cx} {e e':Expr} {es:List Expr} {te:TE} {t:TA} (h:e=e') (ha:PE X e' te) (hr:PA X es t) (hs:∀l,starEach (e' :: l) X.env=(false,eval e' X.env) :: starEach l X.env:=by intro _;rfl):PA X (e :: es) (qX te t):=by subst h;exact ae ha hr (hs _)
section
variable {σ:St} {H:Hp} {D:Ends} {Q:VK}
theorem gL (hl:H l=some (.lst xs)) (hz:xs.length < sizeLine) (h:Q .non (upd H l (.lst (xs++[y])))):Kx (.ref l) [y] H Q:=⟨l,xs,y,rfl,rfl,hl,hz,h⟩
theorem PY {K:FG9} (h:ta σ H λvs H1=>∃l1 l2,vs=[.ref l1,.ref l2]/\(∃xs,bF K H1 l1 xs)/\(∃ys,bF K H1 l2 ys)/\R (TQ K l1 l2) H1):Ts K ta σ H R:=h
theorem kW (h1:H l=some (.lst xs)) (h2:H b=some (.lst zs)) (hz:xs.length+zs.length<=sizeLine) (h:∀p H',aI H H'->H p=none->H' p=some (.lst (xs++zs))->Q (.ref p) H'):UP (.ref l) (.ref b) H Q :=
 ⟨l,b,xs,zs,rfl,rfl,h1,h2,hz,λp hp=>h p _ (aI.new hp) hp aJ⟩
theorem Sx {K:FG9} {lo hi:Option Int} (h1:bF K H a xs) (h:∀p H',aI H H'->H p=none->H' p=some (.lst (wW xs lo hi))->Q (.ref p) H'):UM K (.ref a) lo hi H Q :=
 ⟨a,xs,rfl,h1,λp hp=>h p _ (aI.new hp) hp aJ⟩
theorem j4 {xs:List α} {i:Int} (h0:0<=i) (h1:i < xs.length):∃v,JT xs i=some v/\v∈xs/\xs[i.toNat]?=some v:=by
 have hj:i.toNat < xs.length:=by lia
 refine ⟨xs[i.toNat],?_,aM hj,by simp [hj]⟩;have:=dA (xs:=xs) (j:=i.toNat) (v:=xs[i.toNat]) (by simp [hj]);rwa [Int.toNat_of_nonneg h0] at this
end
theorem dq {α β:Type} {F:α->β->Prop}:∀{l1:List α} {l2:List β} {y:β},Paired F l1 l2->y∈l2->∃x∈l1,F x y
 | _,_,_,.nil,h=>nomatch h
 | _,_,_,.cons r t,h=>by
  rcases aL.mp h with rfl | h
  ·exact ⟨_,dB,r⟩
  ·obtain ⟨x,hx,q⟩:=dq t h;exact ⟨x,bZ _ hx,q⟩
theorem bT {F:α->β->Prop} {l1:List α} {l2:List β} {i:Nat} {y:β} (h:Paired F l1 l2) (e:l2[i]?=some y):∃x,l1[i]?=some x/\F x y:=by
 have hl:=h.length;have hi:i < l2.length:=(aK.mp e).1;refine ⟨l1[i]'(by lia),by simp,?_⟩;have:=iP h (i:=i) (by lia) hi;have e2:l2[i]=y:=(aK.mp e).2;rwa [e2] at this
def Iy (n:Int×Int):Prop:=0 < n.2/\Int.gcd n.1 n.2=1/\Sz 400000 n.1/\Sz 400000 n.2
theorem take_snoc {α:Type} {l:List α} {v:α} (h:l[i]?=some v):l.take (i+1)=l.take i++[v]:=by rw[List.take_add_one,h];rfl
theorem aI.after (s:aI H H') (h:H r=Option.none):aI H (upd H' r o):=λb u e=>by rw[bD (fU e h)];exact s b u e
theorem cI.after (s:cI b H H') (h:H r=Option.none):cI b H (upd H' r o):=⟨λc u e n=>by rw[bD (fU e h)];exact s.1 c u e n,λq hi=>(s.2 q hi).upd λz=>by obtain ⟨_,_,_,e⟩:=hi;rw[<- z,h] at e;cases e⟩
theorem cI.same (s:cI b H H') (e:aI H' H''):cI b H H'':=s.trans e.upto
theorem zY {α:Type} {Pr:α->Prop} {l:List α} {a:α} (h:∀n∈l,Pr n) (ha:Pr a):∀n∈l++[a],Pr n:=λn hn=>by
 rcases aH.mp hn with hn | hn
 ·exact h n hn
 ·have e:n=a:=by simpa using hn
  rw[e];exact ha
abbrev Cg (h:Heap) (z TI TO:Addr) (f0 f1:Value):Prop:=h.get? z=some { cls:=.type "zip",dict:=none,data:=.fields #[f0,f1,.bool false,.ref TI,.ref TO],slots:=#[] }
section
variable {prog:Program} {w:World} {A:Around} {E:Value->Shared->Prop} {s:Shared}
theorem JU (e:s.heap.get? a=some o) (h:Q (some o) s):wpAny (model prog w) A (loadIfAlive a) Q E s:=by
 intro Γ p hp;show Sem.wp _ _ (.loadIfAlive a .pure) _ _ _ _
 simp only[Sem.wp_loadIfAlive,e];exact wpAny_pure h Γ p hp
theorem AV {z TI TO T:Addr} (zr:Cg s.heap z TI TO (rawInt T) (.bool b1)) (al:s.heap.get? T=some o)
  (h:∀h',Cg h' z TI TO (rawInt T) (.bool true)->Heap.SameBut z s.heap h'->Q false { s with heap:=h' }):wpAny (model prog w) A (Builtin.SmallTypes.ownedTupleIsFree (.ref z)) Q E s:=by
 unfold Builtin.SmallTypes.ownedTupleIsFree;refine wpAny_bind (wpAny_field zr rfl (x:=rawInt T) rfl ?_);refine wpAny_bind (JU (a:=T) al ?_);refine wpAny_bind (wpAny_field zr rfl (x:=.bool b1) rfl ?_);cases b1 with
 | true=>exact wpAny_pure (h _ zr (.refl ..))
 | false=>exact wpAny_bind (wpAny_setField_rec zr (by simp) λh' zr' sb=>wpAny_pure (h h' zr' sb))
theorem Mi {z TI TO T i1 i2 l1 l2:Addr} {Q:Value->Shared->Prop} (D:ZipApart z TI TO i1 i2 l1 l2) (zr:Cg s.heap z TI TO (rawInt T) (.bool b1)) (al:s.heap.get? T=some o)
  (pt:IsPair s.heap TI (.ref i1) (.ref i2)) (j1:s.heap.IsListIter i1 l1 k1) (j2:s.heap.IsListIter i2 l2 k2) (m1:s.heap.IsList l1 us) (m2:s.heap.IsList l2 ws) (eu:us[k1]?=some u) (ev:ws[k2]?=some v)
  (hQ:∀h',Cg h' z TI TO (rawInt T) (.bool true)->h'.IsListIter i1 l1 (k1+1)->h'.IsListIter i2 l2 (k2+1)->IsPair h' s.heap.objs.size u v->(∀c o,c≠z->c≠i1->c≠i2->s.heap.get? c=some o->h'.get? c=some o)->Q (.ref s.heap.objs.size) { s with heap:=h' }) :
  wpAny (model prog w) A (Builtin.«zip.__next__» ⟨[.ref z],[]⟩) (λfin s'=>∃v,fin=.done (.ret v)/\Q v s') E s:=by
 change wpAny _ _ (field (Value.ref z) 2 >>= _) _ _ s
 refine wpAny_bind (wpAny_field zr rfl (x:=.bool false) rfl ?_)
 change wpAny _ _ (field (Value.ref z) 3 >>= _) _ _ s
 refine wpAny_bind (wpAny_field zr rfl (x:=.ref TI) rfl (wpAny_bind (wpAny_seqItems pt rfl ?_)))
 change wpAny _ _ (Builtin.SmallTypes.ownedTupleIsFree (Value.ref z) >>= _) _ _ s
 refine wpAny_bind (AV zr al λg1 zr1 sb1=>?_);simp only[jw,if_false];refine wpAny_bind ?_;rw[<- Array.forIn_toList];simp only[Pd,Ef];have j1':=j1.extBut sb1.extBut D.i1z;have m1':=m1.extBut sb1.extBut D.l1z;refine wpAny_bind (wpAny_bind (wpAny_holding ?_))
 change wpAny _ _ (Builtin.SmallTypes.nextOf (Value.ref i1) >>= _) _ _ _
 refine wpAny_bind (wpAny_nextOf_list_item j1' m1' eu λg2 j1a sb2=>wpAny_pure ?_);refine wpAny_pure ?_;have j2':=(j2.extBut sb1.extBut D.i2z).extBut sb2.extBut D.i12.symm;have m2':=(m2.extBut sb1.extBut D.l2z).extBut sb2.extBut D.l2i1;refine wpAny_bind (wpAny_bind (wpAny_holding ?_))
 change wpAny _ _ (Builtin.SmallTypes.nextOf (Value.ref i2) >>= _) _ _ _
 refine wpAny_bind (wpAny_nextOf_list_item j2' m2' ev λg3 j2a sb3=>wpAny_pure ?_);refine wpAny_pure (wpAny_pure ?_);refine wpAny_bind (wpAny_newTuple (hsz:=jI rfl) ?_);have sz:g3.objs.size=s.heap.objs.size:=by rw[sb3.1,sb2.1,sb1.1]
 have up:∀c o,c≠z->c≠i1->c≠i2->s.heap.get? c=some o->g3.get? c=some o:=λc o c1 c2 c3 e=>sb3.extBut _ _ c3 (sb2.extBut _ _ c2 (sb1.extBut _ _ c1 e))
 have zr3:Cg g3 z TI TO (rawInt T) (.bool true):=sb3.extBut _ _ D.i2z.symm (sb2.extBut _ _ D.i1z.symm zr1);refine wpAny_pure ⟨_,rfl,?_⟩
 change Q (.ref g3.objs.size) { s with heap:=g3.push { cls:=.type "tuple",data:=.seq #[u,v] } }
 have last:=hQ (g3.push { cls:=.type "tuple",data:=.seq #[u,v] }) (Heap.get?_push_of_some _ zr3) ((j1a.extBut sb3.extBut D.i12).at λo e=>Heap.get?_push_of_some _ e) (j2a.at λo e=>Heap.get?_push_of_some _ e)
  (by rw[<- sz];exact Heap.get?_push_size _ rfl) λc o c1 c2 c3 e=>Heap.get?_push_of_some _ (up c o c1 c2 c3 e)
 rw[sz];exact last
theorem Od {z TI TO T i1 i2 l1 l2:Addr} (hh:A.handled=none) (D:ZipApart z TI TO i1 i2 l1 l2) (zr:Cg s.heap z TI TO (rawInt T) (.bool b1)) (al:s.heap.get? T=some o)
  (pt:IsPair s.heap TI (.ref i1) (.ref i2)) (j1:s.heap.IsListIter i1 l1 k1) (m1:s.heap.IsList l1 us) (eu:us[k1]?=none)
  (hE:∀h' e,(∀c o,c≠z->c≠i1->c≠i2->s.heap.get? c=some o->h'.get? c=some o)->(∃o,h'.get? e=some o/\o.cls=.type "StopIteration")->E (.ref e) { s with heap:=h' }) :
  wpAny (model prog w) A (Builtin.«zip.__next__» ⟨[.ref z],[]⟩) Q E s:=by
 change wpAny _ _ (field (Value.ref z) 2 >>= _) _ _ s
 refine wpAny_bind (wpAny_field zr rfl (x:=.bool false) rfl ?_)
 change wpAny _ _ (field (Value.ref z) 3 >>= _) _ _ s
 refine wpAny_bind (wpAny_field zr rfl (x:=.ref TI) rfl (wpAny_bind (wpAny_seqItems pt rfl ?_)))
 change wpAny _ _ (Builtin.SmallTypes.ownedTupleIsFree (Value.ref z) >>= _) _ _ s
 refine wpAny_bind (AV zr al λg1 zr1 sb1=>?_);simp only[jw,if_false];refine wpAny_bind ?_;rw[<- Array.forIn_toList];simp only[Pd,Ef];refine wpAny_bind (wpAny_bind (wpAny_holding ?_))
 change wpAny _ _ (Builtin.SmallTypes.nextOf (Value.ref i1) >>= _) _ _ _
 exact wpAny_bind (wpAny_nextOf_list_end hh (j1.extBut sb1.extBut D.i1z) (m1.extBut sb1.extBut D.l1z) eu λg2 e xb he=>hE g2 e (λc o c1 c2 _ q=>xb _ _ c2 (sb1.extBut _ _ c1 q)) he)
theorem Me {z TI TO T i1 i2 l1 l2:Addr} (D:ZipApart z TI TO i1 i2 l1 l2) (zr:Cg s.heap z TI TO (rawInt T) (.bool b1)) (al:s.heap.get? T=some o)
  (pt:IsPair s.heap TI (.ref i1) (.ref i2)) (j1:s.heap.IsListIter i1 l1 k1) (j2:s.heap.IsListIter i2 l2 k2) (m1:s.heap.IsList l1 us) (m2:s.heap.IsList l2 ws) (eu:us[k1]?=some u) (ev:ws[k2]?=some v)
  (hQ:∀h',Cg h' z TI TO (rawInt T) (.bool true)->h'.IsListIter i1 l1 (k1+1)->h'.IsListIter i2 l2 (k2+1)->IsPair h' s.heap.objs.size u v->(∀c o,c≠z->c≠i1->c≠i2->s.heap.get? c=some o->h'.get? c=some o)->Q (some (.ref s.heap.objs.size)) { s with heap:=h' }) :
  wpAny (model prog w) A (pyNext (.ref z)) Q E s:=by
 have ty:s.TypeIs (.ref z) "zip":=⟨_,zr,rfl⟩;unfold pyNext;refine wpAny_bind (wpAny_attempt (wpAny_callSpecial?_slot (name:=Str.ofString "__next__") ty oW (wpAny_call_entry oW ty PySem.F.entry_zip_next ?_ (Vq _))));exact Mi D zr al pt j1 j2 m1 m2 eu ev λh' a1 a2 a3 a4 a5=>wpAny_pure (hQ h' a1 a2 a3 a4 a5)
theorem Md {z TI TO T i1 i2 l1 l2:Addr} (hh:A.handled=none) (D:ZipApart z TI TO i1 i2 l1 l2) (zr:Cg s.heap z TI TO (rawInt T) (.bool b1)) (al:s.heap.get? T=some o)
  (pt:IsPair s.heap TI (.ref i1) (.ref i2)) (j1:s.heap.IsListIter i1 l1 k1) (m1:s.heap.IsList l1 us) (eu:us[k1]?=none)
  (hQ:∀h',(∀c o,c≠z->c≠i1->c≠i2->s.heap.get? c=some o->h'.get? c=some o)->Q none { s with heap:=h' }):wpAny (model prog w) A (pyNext (.ref z)) Q E s:=by
 have ty:s.TypeIs (.ref z) "zip":=⟨_,zr,rfl⟩;unfold pyNext;refine wpAny_bind (wpAny_attempt (wpAny_callSpecial?_slot (name:=Str.ofString "__next__") ty oW (wpAny_call_entry oW ty PySem.F.entry_zip_next ?_ (Vq _))));refine Od hh D zr al pt j1 m1 eu λh' e kk ⟨oe,he,hc⟩=>?_
 exact wpAny_bind (wpAny_isInstance (T:="StopIteration") (b:=true) ⟨oe,he,hc⟩ isSubtype_stop (wpAny_pure (hQ _ kk)))
end
section
variable {X:Cx} {pins:List (Addr×Obj)} {σ:St} {H:Hp} {s:Shared}
theorem Inv.moved {ch:List Addr} (I:Inv X pins σ H s) (fx:∀b∈ch,kx X pins H b) (up:∀b o,b∉ch->s.heap.get? b=some o->h'.get? b=some o) (hg:AllBare g') :
  Inv X pins σ H { s with heap:=h',gens:=g',drawn:=d',toks:=t' }:=by
 have nx:∀b o,H b=some o->b∉ch:=λb o e hb=>by have:=(fx b hb).1;rw[this] at e;cases e
 refine I.step (ch:=ch) (λb hb=>?_) (λb o _ _ hb e _=>up b o hb e) (λb o _ _ hb e _=>⟨o.slots,up b o hb e⟩) (λb o hb e n=>n) (λb o hb e=>⟨o,up b o hb e⟩) (λb q e=>e) (λb o q e=>e) (λb q e=>⟨#[],by rw[e];simp⟩) (λm hm=>?_) (λb o e=>?_) hg
 ·obtain ⟨_,f1,_,f3,f4,f5⟩:=fx b hb;exact ⟨f3,f1,f4,f5⟩
 ·obtain ⟨o,es,ep,ho,r⟩:=hm;exact ⟨o,es,ep,up _ o (λz=>(fx _ z).2.1 rfl) ho,r⟩
 ·refine (I.hok b o e).stay (λc v' hc q=>up c v' ?_ q) (λc q=>q) λc xs q=>q
  rcases hc with rfl | hc
  ·exact nx _ _ e
  ·exact nx _ _ hc
theorem Inv.track (I:Inv X pins σ H s) (fp:kx X pins H p) (new:jG X.prog X.w (upd H p o) s.heap p o):Inv X pins σ (upd H p o) s:=by
 have nt:∀{b:Addr} {u:HO},H b=some u->b≠p:=λe z=>by rw[z,fp.1] at e;cases e
 refine I.step (h':=s.heap) (g':=s.gens) (d':=s.drawn) (t':=s.toks) (ch:=[p]) (λb hb=>?_) (λb o _ _ _ e _=>e) (λb o _ _ _ e _=>⟨o.slots,e⟩) (λb o hb e n=>?_) (λb o _ e=>⟨o,e⟩) (λb q e=>by rw[bD (nt e)];exact e) (λb o q e=>by rw[bD (nt e)];exact e)
  (λb q e=>⟨#[],by rw[bD (nt e),e];simp⟩) (λm hm=>hm) (λb u e=>?_) I.bare
 ·have e:b=p:=by simpa using hb
  subst e;obtain ⟨_,f1,_,f3,f4,f5⟩:=fp;exact ⟨f3,f1,f4,f5⟩
 ·rw[bD λz=>hb (by simp [z])];exact n
 ·by_cases hb:b=p
  ·subst hb;rw[aJ] at e;cases e;exact new
  ·rw[bD hb] at e;exact (I.hok b u e).stay (λc v _ q=>q) (λc q=>by rw[bD (nt q)];exact q) λc xs q=>by rw[bD (nt q)];exact q
end
def RM (H:Hp) (p:V×V) (x:V):Prop:=∃T,x=.ref T/\H T=some (.tup [p.1,p.2])
theorem RM.same (h:RM H p x) (e:aI H H'):RM H' p x:=by obtain ⟨T,q,g⟩:=h;exact ⟨T,q,e _ _ g⟩
def Zst (h:Heap) (z TI TO:Addr) (base:Nat):Prop:=(∃a b,IsPair h TO a b)/\(IsZip h z TI TO .none\/∃(T:Addr) (b1:Bool) (o:Obj),Cg h z TI TO (rawInt T) (.bool b1)/\h.get? T=some o/\@LE.le Nat instLENat base T)
theorem Eh {z TI TO i1 i2 l1 l2:Addr} (hz:Cg h z TI TO f0 f1) (hTI:IsPair h TI (.ref i1) (.ref i2)) (hTO:IsPair h TO a b) (h1:h.IsListIter i1 l1 k1) (h2:h.IsListIter i2 l2 k2) (hl1:h.IsList l1 xs) (hl2:h.IsList l2 ys) (hT:TI≠TO) (hi:i1≠i2):ZipApart z TI TO i1 i2 l1 l2:=by
 obtain ⟨o1,g1,c1,_⟩:=h1;obtain ⟨o2,g2,c2,_⟩:=h2;obtain ⟨p1,q1,d1,_⟩:=hl1;obtain ⟨p2,q2,d2,_⟩:=hl2;have zt:Value.type "zip"≠.type "tuple":=lZ (by decide);have it:Value.type "list_iterator"≠.type "tuple":=lZ (by decide);have iz:Value.type "list_iterator"≠.type "zip":=lZ (by decide);have lz:Value.type "list"≠.type "zip":=lZ (by decide);have lt:Value.type "list"≠.type "tuple":=lZ (by decide);have li:Value.type "list"≠.type "list_iterator":=lZ (by decide)
 exact ⟨dw hTI hz zt.symm,dw hTO hz zt.symm,dw g1 hz (by rw[c1];exact iz),dw g2 hz (by rw[c2];exact iz),hT,dw hTI g1 (by rw[c1];exact it.symm),dw hTI g2 (by rw[c2];exact it.symm),dw hTO g1 (by rw[c1];exact it.symm),dw hTO g2 (by rw[c2];exact it.symm),hi,
  dw q1 hz (by rw[d1];exact lz),dw q1 hTO (by rw[d1];exact lt),dw q1 g1 (by rw[d1,c1];exact li),dw q1 g2 (by rw[d1,c2];exact li),dw q2 hz (by rw[d2];exact lz),dw q2 hTO (by rw[d2];exact lt),dw q2 g1 (by rw[d2,c1];exact li),dw q2 g2 (by rw[d2,c2];exact li)⟩
section
variable {X:Cx} {pins:List (Addr×Obj)} {σ:St}
theorem kx.heap (f:kx X pins H b) (e:H' b=none):kx X pins H' b:=⟨e,f.2⟩
structure Fn where
 z:Addr
 TI:Addr
 TO:Addr
 i1:Addr
 i2:Addr
 S:Addr
 base:Nat
def Fn.all (a:Fn):List Addr:=[a.z,a.TI,a.TO,a.i1,a.i2,a.S]
structure Fn.Ok (a:Fn):Prop where
 tt:a.TI≠a.TO
 ii:a.i1≠a.i2
 Sz:a.S≠a.z
 STI:a.S≠a.TI
 STO:a.S≠a.TO
 Si1:a.S≠a.i1
 Si2:a.S≠a.i2
 lt:∀b∈a.all,@LT.lt Nat instLTNat b a.base
structure QX (X:Cx) (pins:List (Addr×Obj)) (σ:St) (H1:Hp) (a:Fn) (l1 l2:Addr) (i:Nat) (H:Hp) (s:Shared):Prop where
 inv:Inv X pins σ H s
 same:aI H1 H
 fps:∀b∈a.all,kx X pins H b
 sz:a.base<=s.heap.objs.size
 zst:Zst s.heap a.z a.TI a.TO a.base
 pt:IsPair s.heap a.TI (.ref a.i1) (.ref a.i2)
 j1:s.heap.IsListIter a.i1 l1 i
 j2:s.heap.IsListIter a.i2 l2 i
variable {a:Fn} {l1 l2:Addr} {H1 H:Hp} {s:Shared} {i:Nat} {xs ys:List V}
theorem QX.push (L:QX X pins σ H1 a l1 l2 i H s) (O:a.Ok) (k:∀b o,b≠a.S->s.heap.get? b=some o->h'.get? b=some o) (hz:h'.objs.size=s.heap.objs.size):QX X pins σ H1 a l1 l2 i H { s with heap:=h' }:=by
 refine ⟨L.inv.moved (g':=s.gens) (d':=s.drawn) (t':=s.toks) (ch:=[a.S]) (λb hb=>?_) (λb o hb e=>k b o (λz=>hb (by simp [z])) e) L.inv.bare,L.same,L.fps,by show a.base<=h'.objs.size;rw[hz];exact L.sz,?_,k _ _ O.STI.symm L.pt,L.j1.at λo e=>k _ o O.Si1.symm e,L.j2.at λo e=>k _ o O.Si2.symm e⟩
 ·have e:b=a.S:=by simpa using hb
  rw[e];exact L.fps _ (by simp [Fn.all])
 ·obtain ⟨⟨c,d,z0⟩,z4⟩:=L.zst;refine ⟨⟨c,d,k _ _ O.STO.symm z0⟩,?_⟩;rcases z4 with z1 | ⟨T,b1,o,z1,z2,z3⟩
  ·exact .inl (k _ _ O.Sz.symm z1)
  ·refine .inr ⟨T,b1,o,k _ _ O.Sz.symm z1,k _ _ (λe=>?_) z2,z3⟩;have:=O.lt a.S (by simp [Fn.all]);rw[<- e] at this;exact absurd this (Nat.not_lt.mpr z3)
theorem MV (O:a.Ok) (q1:bF X.K H1 l1 xs) (q2:bF X.K H1 l2 ys) (ex:xs[i]?=some x) (ey:ys[i]?=some y) (L:QX X pins σ H1 a l1 l2 i H s)
  (hQ:∀s',QX X pins σ H1 a l1 l2 (i+1) (upd H s.heap.objs.size (.tup [x,y])) s'->(∀c o,c∉[a.z,a.TO,a.i1,a.i2]->s.heap.get? c=some o->s'.heap.get? c=some o)->H s.heap.objs.size=none->Q (some (.ref s.heap.objs.size)) s'):wpAny (model X.prog X.w) A' (pyNext (.ref a.z)) Q E s:=by
 obtain ⟨I,sm,fps,sz,zst,pt,j1,j2⟩:=id L;obtain ⟨us,ru,pu,_⟩:=I.list (sm.seq q1);obtain ⟨ws,rw',pw,_⟩:=I.list (sm.seq q2);obtain ⟨u,eu,r1⟩:=ru.get ex;obtain ⟨v,ev,r2⟩:=rw'.get ey;have fx:∀b∈[a.z,a.TO,a.i1,a.i2],kx X pins H b:=λb hb=>fps b (by simp only[Fn.all,aL,a9,or_false] at hb ⊢;rcases hb with e | e | e | e <;> simp [e])
 have hT0:H s.heap.objs.size=none:=I.hok.fresh (au _);have fT:kx X pins H s.heap.objs.size:=I.fpOk (au _) hT0;have lt:∀b∈a.all,b≠s.heap.objs.size:=λb hb e=>by have:=O.lt b hb;rw[e] at this;exact absurd this (Nat.not_lt.mpr sz)
 have fin:∀h',(∀c o,c∉[a.z,a.TO,a.i1,a.i2]->s.heap.get? c=some o->h'.get? c=some o)->IsPair h' s.heap.objs.size u v->IsPair h' a.TI (.ref a.i1) (.ref a.i2)->h'.IsListIter a.i1 l1 (i+1)->h'.IsListIter a.i2 l2 (i+1)->Zst h' a.z a.TI a.TO a.base →
   Q (some (.ref s.heap.objs.size)) { s with heap:=h' }:=λh' up pr pt' j1' j2' zst'=>by
  have I2:Inv X pins σ H { s with heap:=h' }:=I.moved (g':=s.gens) (d':=s.drawn) (t':=s.toks) fx up I.bare;have I3:Inv X pins σ (upd H s.heap.objs.size (.tup [x,y])) { s with heap:=h' }:=I2.track fT ⟨jI rfl,[u,v],.cons r1 (.cons r2 .nil),⟨_,pr,rfl,_,rfl⟩⟩;refine hQ _ ⟨I3,sm.trans (aI.new hT0),λb hb=>(fps b hb).heap (by rw[bD (lt b hb)];exact (fps b hb).1),?_,zst',pt',j1',j2'⟩ up hT0;exact ag sz (aT (Heap.lt_size pr))
 obtain ⟨⟨c,d,z0⟩,z4⟩:=zst;rcases z4 with z1 | ⟨T,b1,o,z1,z2,z3⟩
 ·have D:=Eh z1 pt z0 j1 j2 pu.isList pw.isList O.tt O.ii;refine wpAny_pyNext_zip_item D z1 pt z0 j1 j2 pu.isList pw.isList (x:=u) (y:=v) (by simpa using eu) (by simpa using ev) λh' a1 a2 a3 a4 a5 a6 hk=>?_
  have up:∀c o,c∉[a.z,a.TO,a.i1,a.i2]->s.heap.get? c=some o->h'.get? c=some o:=λc o hc e=>by
   simp only[aL,a9,or_false,not_or] at hc;exact hk c o hc.1 hc.2.1 hc.2.2.1 hc.2.2.2 e
  exact fin h' up a5 (hk _ _ D.TIz D.TITO D.TIi1 D.TIi2 pt) a3 a4 ⟨⟨_,_,a2⟩,.inr ⟨s.heap.objs.size,false,_,a1,a5,sz⟩⟩
 ·have D:=Eh z1 pt z0 j1 j2 pu.isList pw.isList O.tt O.ii;refine Me D z1 z2 pt j1 j2 pu.isList pw.isList (u:=u) (v:=v) (by simpa using eu) (by simpa using ev) λh' a1 a3 a4 a5 hk=>?_
  have up:∀c o,c∉[a.z,a.TO,a.i1,a.i2]->s.heap.get? c=some o->h'.get? c=some o:=λc o hc e=>by
   simp only[aL,a9,or_false,not_or] at hc;exact hk c o hc.1 hc.2.2.1 hc.2.2.2 e
  have Tn:∀b∈a.all,T≠b:=λb hb e=>by have:=O.lt b hb;rw[<- e] at this;exact absurd this (Nat.not_lt.mpr z3)
  exact fin h' up a5 (hk _ _ D.TIz D.TIi1 D.TIi2 pt) a3 a4 ⟨⟨_,_,hk _ _ D.TOz D.TOi1 D.TOi2 z0⟩,.inr ⟨T,true,o,a1,hk _ _ (Tn _ (by simp [Fn.all])) (Tn _ (by simp [Fn.all])) (Tn _ (by simp [Fn.all])) z2,z3⟩⟩
theorem MU (hh:A'.handled=none) (O:a.Ok) (q1:bF X.K H1 l1 xs) (q2:bF X.K H1 l2 ys) (hi:xs.length<=i) (L:QX X pins σ H1 a l1 l2 i H s)
  (hQ:∀s',Inv X pins σ H s'->(∀c o,c∉[a.z,a.TO,a.i1,a.i2]->s.heap.get? c=some o->s'.heap.get? c=some o)->Q none s'):wpAny (model X.prog X.w) A' (pyNext (.ref a.z)) Q E s:=by
 obtain ⟨I,sm,fps,sz,zst,pt,j1,j2⟩:=id L;obtain ⟨us,ru,pu,_⟩:=I.list (sm.seq q1);obtain ⟨ws,rw',pw,_⟩:=I.list (sm.seq q2);have lx:=ru.length;have none1:us.toArray[i]?=none:=by simp;lia
 have fx:∀b∈[a.z,a.TO,a.i1,a.i2],kx X pins H b:=λb hb=>fps b (by simp only[Fn.all,aL,a9,or_false] at hb ⊢;rcases hb with e | e | e | e <;> simp [e])
 have fin:∀h',(∀c o,c∉[a.z,a.TO,a.i1,a.i2]->s.heap.get? c=some o->h'.get? c=some o)->Q none { s with heap:=h' }:=λh' up=>hQ _ (I.moved (g':=s.gens) (d':=s.drawn) (t':=s.toks) fx up I.bare) up
 obtain ⟨⟨c,d,z0⟩,z4⟩:=zst;rcases z4 with z1 | ⟨T,b1,o,z1,z2,z3⟩
 ·have D:=Eh z1 pt z0 j1 j2 pu.isList pw.isList O.tt O.ii;refine wpAny_pyNext_zip_end hh D z1 pt z0 j1 j2 pu.isList pw.isList (.inl none1) λh' hk=>fin h' λc o hc e=>?_
  simp only[aL,a9,or_false,not_or] at hc;exact hk c o hc.1 hc.2.1 hc.2.2.1 hc.2.2.2 e
 ·have D:=Eh z1 pt z0 j1 j2 pu.isList pw.isList O.tt O.ii;refine Md hh D z1 z2 pt j1 pu.isList none1 λh' hk=>fin h' λc o hc e=>?_
  simp only[aL,a9,or_false,not_or] at hc;exact hk c o hc.1 hc.2.2.1 hc.2.2.2 e
theorem MY (hh:A'.handled=none) (O:a.Ok) (hz:xs.length<=sizeLine) (hl:ys.length=xs.length) (q1:bF X.K H1 l1 xs) (q2:bF X.K H1 l2 ys)
  (fin:∀s' H' ts acc c,Inv X pins σ H' s'->aI H1 H'->kx X pins H' a.S->s'.heap.get? a.S=some (lobj acc c)->c5 ts acc->Paired (RM H') (xs.zip ys) ts->R (.ok (.ret .none)) s') :
  ∀(k i:Nat) (s:Shared) (H:Hp) (ts:List V) (acc:List Value) (c:Nat),xs.length - i=k->i<=xs.length->QX X pins σ H1 a l1 l2 i H s->s.heap.get? a.S=some (lobj acc c)->c5 ts acc->Paired (RM H) ((xs.zip ys).take i) ts →
   codeAny (model X.prog X.w) A' (.builtin "list.extend.loop" ⟨[.ref a.S,.ref a.z,.none],[]⟩) R s:=by
 have Sn:a.S∉[a.z,a.TO,a.i1,a.i2]:=λh=>by
  simp only[aL,a9,or_false] at h;rcases h with e | e | e | e
  ·exact O.Sz e
  ·exact O.STO e
  ·exact O.Si1 e
  ·exact O.Si2 e
 intro k
 induction k with
 | zero =>
  intro i s H ts acc c hk hi L gS rv prs;have e:i=xs.length:=by lia
  refine codeAny_builtin TZ ?_;rw[Around.under_plainId kR _]
  change wpAny _ A'.in1 (pyNext (Value.ref a.z) >>= _) _ _ s
  refine wpAny_bind (MU hh O q1 q2 (by lia) L λs' I' up=>wpAny_pure (fin s' H ts acc c I' L.same (L.fps _ (by simp [Fn.all])) (up _ _ Sn gS) rv ?_));rwa [aE (by rw[qV];lia)] at prs
 | succ k ih =>
  intro i s H ts acc c hk hi L gS rv prs;have hlt:i < xs.length:=by lia
  have lt:=prs.length;have la:=rv.length;refine codeAny_builtin TZ ?_;rw[Around.under_plainId kR _]
  change wpAny _ A'.in1 (pyNext (Value.ref a.z) >>= _) _ _ s
  refine wpAny_bind (MV O q1 q2 (x:=xs[i]) (y:=ys[i]'(by lia)) (by simp [hlt]) (by simp) L λs' L' up hT=>?_);have gS':=up _ _ Sn gS
  change wpAny _ A'.in1 (updateSeq a.S (·.push (Value.ref s.heap.objs.size)) >>= _) _ _ s'
  have small:acc.length<=sizeLine:=by
   rw[cP,qV] at lt
   lia
  refine wpAny_bind (wpAny_updateSeq gS' rfl (wpAny_pure ⟨plainId_quiet kR _,?_⟩) (by rw[aX];exact small) (by
   show (acc.toArray.push (Value.ref s.heap.objs.size)).size<=sizeLine+1
   rw[Array.size_push,aX]
   lia))
  have gS2:=kF gS' (λb=>b.push (Value.ref s.heap.objs.size));have e2:(acc.toArray.push (Value.ref s.heap.objs.size))=(acc++[Value.ref s.heap.objs.size]).toArray:=by simp
  rw[e2] at gS2;refine ih (i+1) _ (upd H s.heap.objs.size (.tup [xs[i],ys[i]'(by lia)])) (ts++[.ref s.heap.objs.size]) (acc++[.ref s.heap.objs.size]) _ (by lia) hlt (L'.push O (λb o hb e=>(Heap.get?_update_other _ _ (Ne.symm hb)).trans e) (Heap.size_update ..)) gS2 (rv.append (show c5 [V.ref s.heap.objs.size] [Value.ref s.heap.objs.size] from .cons rfl .nil)) ?_;have zp:(xs.zip ys)[i]?=some (xs[i],ys[i]'(by lia)):=by simp [T1,hlt]
  rw[take_snoc zp];exact (Paired.imp' (λ_ _ z=>z.same (aI.new hT)) prs).snoc ⟨_,rfl,aJ⟩
theorem IU:typeLookup (.type "zip") "__len__"=pure Option.none:=by rw[typeLookup_type,builtinLookup_eq_fast];kernel_rfl
theorem FN:typeLookup (.type "zip") "__length_hint__"=pure Option.none:=by rw[typeLookup_type,builtinLookup_eq_fast];kernel_rfl
theorem MW (hh:A'.handled=none) (O:a.Ok) (hz:xs.length<=sizeLine) (hl:ys.length=xs.length) (q1:bF X.K H1 l1 xs) (q2:bF X.K H1 l2 ys) (L:QX X pins σ H1 a l1 l2 0 H s) (gS:s.heap.get? a.S=some (lobj [] 0)) (z0:IsZip s.heap a.z a.TI a.TO .none)
  (fin:∀s' H' ts acc c,Inv X pins σ H' s'->aI H1 H'->kx X pins H' a.S->s'.heap.get? a.S=some (lobj acc c)->c5 ts acc->Paired (RM H') (xs.zip ys) ts->R (.ok (.ret .none)) s') :
  wpAny (model X.prog X.w) A'.in1 (Builtin.«list.__init__» ⟨[.ref a.S,.ref a.z],[]⟩) (λfl s'=>match fl with | .done f=>R (.ok f) s' | .again c'=>c'.quiet=true/\codeAny (model X.prog X.w) A' c' R s') (λe s'=>R (.error e) s') s:=by
 change wpAny _ A'.in1 (do let old <- Builtin.List.listItems (Value.ref a.S);Builtin.List.listUpdate (Value.ref a.S) (λ_=>#[]);letGo old.toList.reverse;Builtin.List.listExtendWith (Value.ref a.S) (Value.ref a.z) Value.none) _ _ s
 refine wpAny_bind ?_;unfold Builtin.List.listItems;refine wpAny_bind (wpAny_seqItems gS rfl (wpAny_pure ?_))
 change wpAny _ A'.in1 (updateSeq a.S (λ_=>#[]) >>= λ_=>letGo (#[]:Array Value).toList.reverse >>= λ_=>Builtin.List.listExtendWith (Value.ref a.S) (Value.ref a.z) Value.none) _ _ s
 refine wpAny_bind (wpAny_updateSeq gS rfl ?_);have g1:=kF gS (λ_=>(#[]:Array Value));obtain ⟨n1,g1⟩:∃n1,(s.heap.update a.S (Obj.mapSeq λ_=>(#[]:Array Value))).get? a.S=some (lobj [] n1):=⟨_,g1⟩;have L1:=L.push (h':=s.heap.update a.S (Obj.mapSeq λ_=>(#[]:Array Value))) O (λb o hb e=>(Heap.get?_update_other _ _ (Ne.symm hb)).trans e) (Heap.size_update ..);have z1:IsZip (s.heap.update a.S (Obj.mapSeq λ_=>(#[]:Array Value))) a.z a.TI a.TO .none:=(Heap.get?_update_other _ _ O.Sz).trans z0;refine wpAny_bind (wpAny_letGo ?_);unfold Builtin.List.listExtendWith;have ty:Shared.TypeIs { s with heap:=s.heap.update a.S (Obj.mapSeq λ_=>(#[]:Array Value)) } (.ref a.z) "zip":=⟨_,z1,rfl⟩;refine wpAny_bind (wpAny_typeOf ty ?_);have h1:Builtin.List.listSameRef (.ref a.S) (.ref a.z)=false:=by simp [Builtin.List.listSameRef,O.Sz]
 have h2:(Value.type "zip" == Value.type "list")=false:=by decide
 have h3:(Value.type "zip" == Value.type "tuple")=false:=by decide
 simp only[h1,h2,h3,Bool.or_false,jw,if_false];refine wpAny_bind (wpAny_pyIter_zip z1 (wpAny_bind (wpAny_holding ?_)));unfold Builtin.List.listLengthHint;refine wpAny_bind (wpAny_specialOf ty IU ?_)
 change wpAny _ A'.in1 (specialOf (Value.ref a.z) (Str.ofString "__length_hint__") >>= _) _ _ _
 refine wpAny_bind (wpAny_specialOf ty FN (wpAny_pure ?_))
 change wpAny _ A'.in1 (rule "list.extend.makes-room" >>= λ_=>Builtin.List.listTouch (Value.ref a.S) >>= λ_=>again (.builtin "list.extend.loop" ⟨[Value.ref a.S,Value.ref a.z,Value.none],[]⟩)) _ _ _
 refine wpAny_bind (wpAny_rule (wpAny_bind ?_))
 change wpAny _ A'.in1 (updateSeq a.S (·.push Value.none) >>= λ_=>updateSeq a.S (·.pop)) _ _ _
 refine wpAny_bind (wpAny_updateSeq g1 rfl ?_);have g2:=kF g1 (λb=>b.push Value.none);obtain ⟨n2,g2⟩:∃n2,((s.heap.update a.S (Obj.mapSeq λ_=>(#[]:Array Value))).update a.S (Obj.mapSeq λb=>b.push Value.none)).get? a.S=some (lobj [Value.none] n2):=⟨_,g2⟩;have L2:=L1.push (h':=(s.heap.update a.S (Obj.mapSeq λ_=>(#[]:Array Value))).update a.S (Obj.mapSeq λb=>b.push Value.none)) O (λb o hb e=>(Heap.get?_update_other _ _ (Ne.symm hb)).trans e) (Heap.size_update ..);refine wpAny_updateSeq g2 rfl ?_ (jI rfl);have g3:=kF g2 (λb=>b.pop);have L3:=L2.push (h':=((s.heap.update a.S (Obj.mapSeq λ_=>(#[]:Array Value))).update a.S (Obj.mapSeq λb=>b.push Value.none)).update a.S (Obj.mapSeq λb=>b.pop)) O (λb o hb e=>(Heap.get?_update_other _ _ (Ne.symm hb)).trans e) (Heap.size_update ..);exact wpAny_pure ⟨plainId_quiet kR _,MY hh O hz hl q1 q2 fin _ 0 _ H [] [] _ rfl (bC _) L3 g3 .nil .nil⟩
end
section
variable {X:Cx}
theorem RU (n:Nat):Fn.Ok ⟨n+4,n+2,n+3,n,n+1,n+5,n+5+1⟩:=by
 have ne:∀p q:Nat,p≠q->@Ne Addr p q:=λ_ _ h=>h
 refine ⟨ne (n+2) (n+3) (by lia),ne n (n+1) (by lia),ne (n+5) (n+4) (by lia),ne (n+5) (n+2) (by lia),ne (n+5) (n+3) (by lia),ne (n+5) n (by lia),ne (n+5) (n+1) (by lia),λb hb=>?_⟩;have hb':b∈[n+4,n+2,n+3,n,n+1,n+5]:=hb;show @LT.lt Nat instLTNat b (n+5+1)
 simp only[aL,a9,or_false] at hb';rcases hb' with e | e | e | e | e | e <;> (rw[e];exact bx (jh _) (by lia))
def FO (K:FG9) (ta:TA):TE:=λσ H Q=>ta σ H λvs H1=>∃(l1 l2:Addr) (xs ys:List V),vs=[.ref l1,.ref l2]/\bF K H1 l1 xs/\bF K H1 l2 ys/\ys.length=xs.length /\
 ∀L ts H',aI H1 H'->H1 L=none->H' L=some (.lst ts)->Paired (RM H') (xs.zip ys) ts->Q (.ref L) H'
theorem AS {e1 e2:Expr} {ta:TA} {p p2 pos pos2:Pos} (hg:Gl X "list") (hm:X.mg "list"=none) (hg2:Gl X "zip") (hm2:X.mg "zip"=none) (ha:PA X [e1,e2] ta) (hc:X.calm=true:=by rfl)
  (hs:starEach [e1,e2] X.env=[(false,eval e1 X.env),(false,eval e2 X.env)]:=by rfl) (hs2:starEach [e2] X.env=[(false,eval e2 X.env)]:=by rfl)
  (hs3:starEach [Expr.Call (.Name "zip" p2) [e1,e2] [] pos2] X.env=[(false,eval (.Call (.Name "zip" p2) [e1,e2] [] pos2) X.env)]:=by rfl) :
  PE X (.Call (.Name "list" p) [.Call (.Name "zip" p2) [e1,e2] [] pos2] [] pos) (FO X.K ta):=by
 intro pins s σ H Q I h;refine wpAny_Call_Name_kw (kZ I hg hm boot_list ?_);refine PyProof.Rows.callWith_type1 ?_ (by rw[hs3];rfl) rfl;rw[hs3];show wpAny _ _ (spliced ((false,eval (.Call (.Name "zip" p2) [e1,e2] [] pos2) X.env) :: [])) _ _ s
 refine Calls.spliced_cons ?_;refine Call_ (kZ I hg2 hm2 boot_zip (PyProof.Rows.callWith_type1 (iq (ha pos2 pins s σ H _ I h) λus s1 ⟨vs,H1,I1,r1,q1⟩=>?_) (by rw[hs,hs2]) (by rw[hs2];rfl)));obtain ⟨l1,l2,xs,ys,e,qx,qy,hl,q⟩:=q1;subst e;obtain ⟨u,v,rfl,ru,rv⟩:=vals2 r1;cases ru;cases rv;obtain ⟨us,rx,px,hz⟩:=I1.list qx;obtain ⟨ws,ry,py,_⟩:=I1.list qy;refine call_zip_2 px.isList py.isList λh' a1 a2 a3 a4 a5 a6 hk=>?_
 refine Calls.spliced_nil ?_;have I2:Inv X pins σ H1 { s1 with heap:=h' }:=I1.kept (t':=s1.toks) hk;have up:∀b o,h'.get? b=some o->(h'.push { cls:=.type "list",data:=.seq #[] }).get? b=some o:=λb o e=>Heap.get?_push_of_some _ e
 have O:Fn.Ok ⟨s1.heap.objs.size+4,s1.heap.objs.size+2,s1.heap.objs.size+3,s1.heap.objs.size,s1.heap.objs.size+1,h'.objs.size,h'.objs.size+1⟩:=by
  rw[a6];exact RU s1.heap.objs.size
 have old:∀b∈(Fn.mk (s1.heap.objs.size+4) (s1.heap.objs.size+2) (s1.heap.objs.size+3) s1.heap.objs.size (s1.heap.objs.size+1) h'.objs.size (h'.objs.size+1)).all,s1.heap.objs.size<=b:=λb hb=>by
  rw[a6] at hb;simp only[Fn.all,aL,a9,or_false] at hb;rcases hb with rfl | rfl | rfl | rfl | rfl | rfl <;> first | exact MR _ _ | exact au _
 have gS:(h'.push { cls:=.type "list",data:=.seq #[] }).get? h'.objs.size=some (lobj [] 0):=Heap.get?_push_size _ rfl;refine callType_codes (Q₁:=λob t=>ob=.ref h'.objs.size/\t={ s1 with heap:=h'.push { cls:=.type "list",data:=.seq #[] } }) PySem.F.called_list (PySem.F.typeCall_list_1 _) PySem.F.entry_list_init (code_list_new _ ⟨rfl,rfl⟩) λob t ht=>?_
 obtain ⟨rfl,rfl⟩:=ht;refine ⟨⟨_,gS,rfl⟩,PySem.F.args_list_init_2 _ _,?_⟩
 have L:QX X pins σ H1 ⟨s1.heap.objs.size+4,s1.heap.objs.size+2,s1.heap.objs.size+3,s1.heap.objs.size,s1.heap.objs.size+1,h'.objs.size,h'.objs.size+1⟩ l1 l2 0 H1 { s1 with heap:=h'.push { cls:=.type "list",data:=.seq #[] } } :=
  ⟨I2.kept (t':=s1.toks) up,aI.refl _,λb hb=>I1.fpOk (old b hb) (I1.hok.fresh (old b hb)),by rw[Heap.size_push];exact au _,⟨⟨_,_,up _ _ a3⟩,.inl (up _ _ a1)⟩,up _ _ a2,a4.at λo e=>up _ o e,a5.at λo e=>up _ o e⟩
 refine MW (A':=X.A.in1) (I.ok.hd hc) O hz hl qx qy L gS (up _ _ a1) λs' H' ts acc c I' sm fS gS' vs' prs=>⟨rfl,?_⟩
 have nS:H1 h'.objs.size=none:=I1.hok.fresh (old _ (by simp [Fn.all]));have lt:=prs.length;rw[qV] at lt;exact ⟨.ref h'.objs.size,_,I'.track (o:=.lst ts) fS ⟨by lia,acc,c,vs',gS'⟩,rfl,q _ ts _ (sm.trans (aI.new fS.1)) nS aJ (Paired.imp' (λ_ _ z=>z.same (aI.new fS.1)) prs)⟩
end
end L2
namespace Nm
def ya:List Int->Int->Int
 | [],m=>m
 | b :: r,m=>ya r (m*(b / g m b))
theorem wu (hm:0 < m) (hb:0 < b):0 < m*(b / g m b):=jq hm (JH (t:=m) hb)
theorem E7:b∣m*(b / g m b):=by
 have h1:=Bi m b;refine ⟨lo m b,?_⟩;have h2:b / g m b*g m b=b:=yd m b
 calc m*(b / g m b)=lo m b*g m b*(b / g m b):=by rw[h1]
  _=lo m b*(b / g m b*g m b):=by rw[lH,kJ (g m b)]
  _=b*lo m b:=by rw[h2,kJ]
theorem Bl:∀{bs:List Int} {m:Int},0 < m->(∀b∈bs,0 < b)->0 < ya bs m
 | [],_,hm,_=>hm
 | b :: r,m,hm,h=>Bl (bs:=r) (wu hm (h b dB)) λc hc=>h c (bZ _ hc)
theorem Hq:∀{bs:List Int} {m:Int},m∣ya bs m
 | [],_=>LD _
 | b :: r,m=>Int.dvd_trans (Int.dvd_mul_right m _) (Hq (bs:=r))
theorem Ho:∀{bs:List Int} {m b:Int},b∈bs->b∣ya bs m
 | c :: r,m,b,h=>by
  rcases aL.mp h with rfl | h
  ·exact Int.dvd_trans E7 (Hq (bs:=r))
  ·exact Ho (bs:=r) h
end Nm
namespace L2
open PySem PySem.Spec PyProof.Rows Nm
def JW (K:FG9) (H:Hp) (p:Addr) (ns:List (Int×Int)):Prop:=∃xs,H p=some (.lst xs)/\Paired (λn x=>J0 K H x n) ns xs
theorem JW.same {K:FG9} (h:JW K H p ns) (e:aI H H'):JW K H' p ns:=by obtain ⟨xs,g,q⟩:=h;exact ⟨xs,e _ _ g,Paired.imp' (λ_ _ z=>e.num z) q⟩
def GH (K:FG9) (T:String):V->Hp->VK->Prop:=λx H Q=>LV K T x H Q\/∃a xs b,x=.ref a/\uQ K H a xs/\PySem.W.kitOne K (.type "tuple") (.type T)=some b/\Q (.bl b) H
theorem DC:∀{bs:List Int} {m b:Int},ya (bs++[b]) m=ya bs m*(b / g (ya bs m) b)
 | [],_,_=>rfl
 | c :: r,m,b=>DC (bs:=r)
def dO (ns:List (Int×Int)) (B:Int):List Int:=ns.map λn=>n.1*(B / n.2)
def fj (ns:List (Int×Int)):Int:=ya (ns.map (·.2)) 1
def JR (ns ms:List (Int×Int)):Int:=(List.zipWith (λx y=>x*y) (dO ns (fj ns)) (dO ms (fj ms))).sum
theorem tj (h:n∈ns):n.2∣fj ns:=Ho (az.mpr ⟨n,h,rfl⟩)
theorem Jo {K:FG9} (h:ta σ H λvs H1=>∃(l1 l2:Addr) (xs ys:List V),vs=[.ref l1,.ref l2]/\bF K H1 l1 xs/\bF K H1 l2 ys/\ys.length=xs.length /\
 ∀L ts H',aI H1 H'->H1 L=none->H' L=some (.lst ts)->Paired (RM H') (xs.zip ys) ts->Q (.ref L) H'):FO K ta σ H Q:=h
theorem VS (hb:0 < b) (h:Sz k b):Sz k (g m b):=h.le (by
 have h1:(g m b).natAbs=Int.gcd m b:=by unfold g;simp
 rw[h1];exact lD (by lia) (by have:=fQ (a:=m) (b:=b);exact ik.mpr this |> λz=>by simpa using z))
theorem Ka {ts us:List Int} {i:Nat} (h:((ts.map V.int).zip (us.map V.int))[i]?=some pq):∃t u,ts[i]?=some t/\us[i]?=some u/\pq=(.int t,.int u):=by
 rw[T1,aB,aB] at h;obtain ⟨h1,h2⟩:=h;cases e1:ts[i]? with
 | none=>rw[e1] at h1;cases h1
 | some t =>
  cases e2:us[i]? with
  | none=>rw[e2] at h2;cases h2
  | some u =>
   rw[e1] at h1;rw[e2] at h2;refine ⟨t,u,rfl,rfl,?_⟩;cases pq;simp at h1 h2;rw[h1,h2]
inductive Dn (K:FG9) (vs:List V) (H:Hp) (Q:VK) (E9:XK):Prop
 | mk (p:Addr) (ns:List (Int×Int)):vs=[.ref p,.int ns.length]->JW K H p ns->ns.length<=1000->(∀n∈ns,Iy n)->(∀H',aI H H'->Q (.bl true) H')->Dn K vs H Q E9
theorem Qo {X:Cx} {a:Expr} {ta:TE} {pos:Pos} {c:Str} {T:String} {p p2:Pos} (hg:Gl X "isinstance") (hm:X.mg "isinstance"=none) (hb:bootBuiltins c=some (.type T)) (hmc:X.mg c=none) (ha:PE X a ta) (hgc:Gl X c:=by rfl) (hn:c≠"__name__":=by decide)
  (hd:(c == ("__debug__":Str))=false:=by decide) (he:starEach [a,.Name c p2] X.env=[(false,eval a X.env),(false,eval (.Name c p2) X.env)]:=by rfl)
  (hpl:(backTo pos (starEach [.Name c p2] X.env)).any (·.1)=false:=by rfl) (he2:starEach [.Name c p2] X.env=[(false,eval (.Name c p2) X.env)]:=by rfl):PE X (.Call (.Name "isinstance" p) [a,.Name c p2] [] pos) (Vx (GH X.K T) ta):=by
 intro pins s σ H Q I h;refine wpAny_Call_Name_kw (kZ I hg hm PyProof.Rows.boot_isinstance ?_);have hA:PA X [a,.Name c p2] (qX ta (qX (tC (.ty T)) IY)):=ae ha (ae (KL hgc hmc hb rfl hn hd) ai he2) (by rw[he,he2])
 have hq:qX ta (qX (tC (.ty T)) IY) σ H (λvs H1=>∃x,vs=[x,.ty T]/\GH X.K T x H1 Q):=by
  show ta σ H λx H1=>∃x',[x,V.ty T]=[x',V.ty T]/\GH X.K T x' H1 Q
  have e:(λx H1=>∃x',[x,V.ty T]=[x',V.ty T]/\GH X.K T x' H1 Q)=λx H1=>GH X.K T x H1 Q:=by
   funext x H1;apply propext;constructor
   ·rintro ⟨x',e,q⟩;cases e;exact q
   ·intro q;exact ⟨x,rfl,q⟩
  rw[e];exact h
 refine PyProof.Rows.callWith_builtin1 (iq (hA pos pins s σ H _ I hq) λus s1 ⟨vs,H1,I1,r1,x,e,q1⟩=>?_) (by rw[he,he2]) hpl;subst e;obtain ⟨u,w',rfl,ru,rt⟩:=vals2 r1;cases rt;rcases q1 with ⟨t,bb,ty,ek,q⟩ | ⟨ad,xs,bb,rfl,hs,ek,q⟩
 ·exact DE I1 ru ty ek λtk=>⟨.bl bb,H1,I1.tok tk,rfl,q⟩
 ·cases ru;obtain ⟨its,_,⟨o,g1,g2,_⟩,_⟩:=I1.tuple hs;exact dJ PySem.W.kitx_tuple I1.kIn ⟨o,g1,g2⟩ ek (λz=>nomatch z) λtk=>⟨.bl bb,H1,I1.tok tk,rfl,q⟩
theorem NB (h:H l=some (.lst [x])) (hk:k<=1000) (q:∀p H',aI H H'->H p=none->H' p=some (.lst (List.replicate k x))->Q (.ref p) H'):UN (.ref l) (.int k) H Q :=
 ⟨l,k,[x],rfl,rfl,h,by lia,by lia,aT (br (by simp;lia)),λp hp=>q p _ (aI.new hp) hp (by rw[aJ];simp)⟩
theorem TH {k:Nat} (h:k<=xs.length):wW xs none (some (k:Int))=xs.take k:=by
 unfold wW;rw[HT.Gx,HT.Kv,Pa h];simp
theorem vw {α β:Type} {F:α->β->Prop} {x:α} {y:β} (h:F x y):∀m:Nat,Paired F (List.replicate m x) (List.replicate m y)
 | 0=>.nil
 | m+1=>.cons h (vw h m)
theorem fh (h:a < n):MM n (a:Int)=some a:=by
 unfold MM;rw[if_pos (by lia),if_pos (by lia),Int.toNat_natCast]
theorem OP {k:Nat}:wW xs none (some (k:Int))=xs.take k:=by
 by_cases h:k<=xs.length
 ·exact TH h
 ·unfold wW;rw[HT.Gx,HT.Kv,Nat.min_eq_right (by lia),aE (by simp),aE (by lia)];rfl
theorem yB {α β:Type} {F:α->β->Prop}:∀{l1:List α} {l2:List β} (_:Paired F l1 l2) (k:Nat),Paired F (l1.take k) (l2.take k)
 | _,_,.nil,k=>by simp;exact .nil
 | _,_,.cons h r,0=>.nil
 | _,_,.cons h r,k+1=>.cons h (yB r k)
def Qf (K:FG9):List V->Hp->VK->Prop:=λxs H Q=>∃p ys,xs=[.ref p]/\(bF K H p ys\/uQ K H p ys)/\∀l,H l=none->Q (.ref l) (upd H l (.lst ys))
theorem iF (K:FG9) (hK:X.K=K):oV X (.type "list") (Qf K):=by subst hK;exact fP
theorem aI.none (s:aI H H') (h:H' l=Option.none):H l=Option.none:=by
 cases e:H l with
 | none=>rfl
 | some o=>have:=s _ _ e;rw[h] at this;cases this
theorem IZ (h:b.natAbs<=1000000):Sz 20 b:=bp h (by decide)
theorem cI.none (u:cI b H H') (B:gh H' b) (h:H' l=Option.none):H l=Option.none:=by
 cases e:H l with
 | none=>rfl
 | some o =>
  by_cases z:l=b
  ·obtain ⟨_,_,_,_,_,e2,_⟩:=B;rw[<- z,h] at e2;cases e2
  ·have:=u.1 l o e z;rw[h] at this;cases this
end L2
namespace Nm
def nm (q:Rat):Int×Int:=(q.num,(q.den:Int))
theorem jk (q:Rat):0 < (nm q).2:=by have:=q.den_pos;show 0 < (q.den:Int);lia
theorem E2 (q:Rat):Int.gcd (nm q).1 (nm q).2=1:=q.reduced
theorem Tc (h:nm p=nm q):p=q:=by
 have h1:p.num=q.num:=congrArg Prod.fst h;have h2:(p.den:Int)=q.den:=congrArg Prod.snd h;exact Rat.ext h1 (by lia)
theorem jR (q:Rat):(q.num:Rat)=q*(q.den:Rat):=by
 have h:=Rat.num_divInt_den q;rw[Rat.divInt_eq_div] at h
 have hd:((q.den:Int):Rat)≠0:=by
  intro z;have z:=zD.mp z;have:=q.den_pos
  lia
 have e:((q.den:Int):Rat)=(q.den:Rat):=bc _
 calc (q.num:Rat)=(q.num:Rat) / ((q.den:Int):Rat)*((q.den:Int):Rat):=(lX hd).symm
  _=q*(q.den:Rat):=by rw[h,e]
theorem Rn (hb:0 < b) (hg:Int.gcd a b=1) (e:q*(b:Rat)=(a:Rat)):(a,b)=nm q:=by
 have h1:a*(q.den:Int)=q.num*b:=by
  apply dI.mp;rw[aY,aY,<- e,jR,bc];grind
 obtain ⟨e1,e2⟩:=uniq hb (jk q) hg (E2 q) h1;exact Prod.ext e1 e2
theorem mX {t b:Int} (hb:0 < b) (e:q*(b:Rat)=(t:Rat)):(lo t b,hi t b)=nm q:=by
 refine Rn (JH hb) (G9 (by lia)) ?_;have h:=JG t b;have hb':(b:Rat)≠0:=λz=>by have:=zD.mp z;lia
 have h2:((lo t b:Int):Rat)*(b:Rat)=(t:Rat)*((hi t b:Int):Rat):=by rw[<- aY,h,aY]
 rw[<- e] at h2;have h3:(q*((hi t b:Int):Rat) - ((lo t b:Int):Rat))*(b:Rat)=0:=by grind
 rcases qR.mp h3 with h4 | h4
 ·grind
 ·exact absurd h4 hb'
def Fr (M V:Nat) (q:Rat):Prop:=∃z:Int,q*(M:Rat)=(z:Rat)/\z.natAbs<=V*M
theorem Fr.mono (h:Fr M V q) (l:V<=V'):Fr M V' q:=by obtain ⟨z,e,b⟩:=h;exact ⟨z,e,ag b (aG _ l)⟩
theorem Fr.scale (h:Fr M V q) (k:Nat):Fr (M*k) V q:=by
 obtain ⟨z,e,b⟩:=h;refine ⟨z*k,?_,?_⟩
 ·rw[lS,aY,<- e,bc,Rat.mul_assoc]
 ·rw[dZ,cX,<- cR];exact aG _ b
theorem Fr.scaleL (h:Fr M V q) (k:Nat):Fr (k*M) V q:=by rw[cg];exact h.scale k
theorem Fr.dvd (h:Fr M V q) (d:M∣N):Fr N V q:=by obtain ⟨k,rfl⟩:=d;exact h.scale k
theorem Fr.add (h:Fr M V p) (h':Fr M W q):Fr M (V+W) (p+q):=by
 obtain ⟨z,e,b⟩:=h;obtain ⟨z',e',b'⟩:=h';refine ⟨z+z',by rw[Cq,<- e,<- e',Rat.add_mul],?_⟩;rw[O4];have:=Int.natAbs_add_le z z'
 lia
theorem Fr.neg (h:Fr M V q):Fr M V (-q):=by
 obtain ⟨z,e,b⟩:=h;exact ⟨-z,by rw[eY,<- e,Rat.neg_mul],by rw[uV];exact b⟩
theorem Fr.sub (h:Fr M V p) (h':Fr M W q):Fr M (V+W) (p - q):=by rw[Rat.sub_eq_add_neg];exact h.add h'.neg
theorem Fr.mul (h:Fr M V p) (h':Fr N W q):Fr (M*N) (V*W) (p*q):=by
 obtain ⟨z,e,b⟩:=h;obtain ⟨z',e',b'⟩:=h';refine ⟨z*z',?_,?_⟩
 ·rw[lS,aY,<- e,<- e'];grind
 ·rw[dZ]
  calc z.natAbs*z'.natAbs<=(V*M)*(W*N):=ax b b'
   _=V*W*(M*N):=by rw[cR,Nat.mul_left_comm M,<- cR]
theorem Fr.zero:Fr M V 0:=⟨0,by simp,by simp⟩
theorem Fr.int {i:Int} (h:i.natAbs<=V):Fr M V (i:Rat):=⟨i*M,by rw[aY,bc],by rw[dZ,cX];exact aG _ h⟩
theorem Fr.one (h:1<=V):Fr M V 1:=Fr.int (i:=1) h
theorem Fr.den (h:Fr M V q):(q.den:Int)∣(M:Int):=by
 obtain ⟨z,e,b⟩:=h
 have h1:q.num*(M:Int)=z*(q.den:Int):=by
  apply dI.mp;rw[aY,aY,<- e,jR,bc,bc];grind
 have h2:(q.den:Int)∣q.num*(M:Int):=⟨z,by rw[h1,kJ]⟩;exact qe (by rw[ju];exact E2 q) h2
theorem Fr.den_le (h:Fr M V q) (hM:0 < M):q.den<=M:=lD hM (zG.mp h.den)
theorem Fr.num_le (h:Fr M V q) (hM:0 < M):q.num.natAbs<=V*M:=by
 have hd:=h.den;obtain ⟨z,e,b⟩:=h;obtain ⟨k,hk⟩:=zG.mp hd;have hk0:k≠0:=λz=>by rw[z,LC] at hk;lia
 have h1:z=q.num*(k:Int):=by
  apply dI.mp;rw[aY,<- e,jR,bc,hk,lS];grind
 rw[h1] at b;exact ag (oh (by lia)) b
theorem Fr.own (q:Rat) (h:q.num.natAbs<=V):Fr q.den V q:=⟨q.num,(jR q).symm,ag h (dy _ q.den_pos)⟩
theorem Fr.sz (h:Fr M V q) (hM:0 < M) (h1:M<=2^k) (h2:V<=2^j):Sz (j+k+1) (nm q).1/\Sz (k+1) (nm q).2:=by
 constructor
 ·show q.num.natAbs < 2^(j+k+1)
  have h3:=h.num_le hM;have h4:V*M<=2^j*2^k:=ax h2 h1;rw[d5,aF];have:=Nat.two_pow_pos (j+k);rw[aF] at this
  lia
 ·show (q.den:Int).natAbs < 2^(k+1)
  have h3:=h.den_le hM;rw[cX,d5];have:=Nat.two_pow_pos k
  lia
theorem Fr.sum {M V:Nat}:∀{l:List Rat},(∀x∈l,Fr M V x)->Fr M (l.length*V) l.sum
 | [],_=>by simp;exact Fr.zero
 | x :: r,h=>by
  rw[List.sum_cons,bQ,cZ,tU];exact (h x (.head _)).add (Fr.sum λy hy=>h y (.tail _ hy))
def cG (xs ys:List Rat):Rat:=(List.zipWith (λx y=>x*y) xs ys).sum
theorem Fr.dot (h:∀x∈xs,Fr M V x) (h':∀y∈ys,Fr N W y):Fr (M*N) (xs.length*(V*W)) (cG xs ys):=by
 have q:=Fr.sum (M:=M*N) (V:=V*W) (l:=List.zipWith (λx y=>x*y) xs ys) λz hz=>by
  obtain ⟨i,hi,e⟩:=bN hz;rw[dC] at e;rw[<- e];exact (h _ (aM _)).mul (h' _ (aM _))
 exact q.mono (aG _ (by rw[bo];lia))
theorem tQ (xs ys:List Rat):cG xs ys=cG ys xs:=by
 unfold cG;rw[List.zipWith_comm];congr 2;funext a b;exact eO ..
theorem zU:∀{bs:List Int} {m M:Int},0 < m->m∣M->(∀b∈bs,0 < b/\b∣M)->ya bs m∣M
 | [],_,_,_,h,_=>h
 | b :: r,m,M,hm,h,hb=>by
  have b1:=hb b dB;refine zU (bs:=r) (wu hm b1.1) ?_ λc hc=>hb c (bZ _ hc)
  have gp:0 < g m b:=Br (by lia);have e1:=Bi m b;have e2:=yd m b;obtain ⟨u,hu⟩:=h;obtain ⟨v,hv⟩:=b1.2
  have h3:lo m b*u=hi m b*v:=by
   apply RT (show g m b≠0 by lia)
   calc lo m b*u*g m b=lo m b*g m b*u:=by rw[lH,kJ u,<- lH]
    _=m*u:=by rw[e1]
    _=M:=hu.symm
    _=b*v:=hv
    _=hi m b*g m b*v:=by rw[e2]
    _=hi m b*v*g m b:=by rw[lH,kJ (g m b),<- lH]
  have h4:hi m b∣lo m b*u:=⟨v,h3⟩;have h5:hi m b∣u:=qe (by rw[ju];exact G9 (by lia)) h4;obtain ⟨w,hw⟩:=h5;refine ⟨w,?_⟩;show M=m*hi m b*w
  rw[hu,hw,lH]
theorem Fe (hb:0 < b) (d:a∣b) (h:Sz k b):Sz k a:=h.le (lD (by lia) (ik.mpr d))
end Nm
namespace Nm
def Dr (W:Nat) (x:Rat):Prop:=x.num.natAbs<=W/\x.den<=W
def vV:List Nat->Nat
 | []=>1
 | a :: r=>a*vV r
theorem xS:∀{l:List Nat},(∀a∈l,0 < a)->0 < vV l
 | [],_=>Nat.one_pos
 | a :: r,h=>a8 (h a (.head _)) (xS λb hb=>h b (.tail _ hb))
theorem xT:∀{l:List Nat} {a:Nat},a∈l->a∣vV l
 | b :: r,a,h=>by
  rcases aL.mp h with rfl | h
  ·exact kd ..
  ·exact iL (xT h) (c7 ..)
theorem AN {k:Nat}:∀{l:List Nat},(∀a∈l,a<=2^k)->vV l<=2^(k*l.length)
 | [],_=>by simp [vV]
 | a :: r,h=>by
  rw[bQ,Nat.mul_succ,aF,cg (2^(k*r.length))];exact ax (h a (.head _)) (AN λb hb=>h b (.tail _ hb))
def GF (M V:Nat) (rows:LR9):Prop:=∀xs∈rows,∀x∈xs,Fr M V x
def TX (c n i:Nat) (rows:LR9):Prop:=∃M,0 < M/\M<=2^(i*(c*n+2))/\GF M (2^(20+2*i)) rows
theorem Tu:TX c n 0 []:=⟨1,by decide,by simp,λ_ h=>nomatch h⟩
theorem Tv (c n i:Nat):(i+1)*(c*n+2)=i*(c*n+2)+(c*n+2):=cZ ..
theorem QC (h:TX c n i rows) (hl:xs.length=n) (hd:∀x∈xs,Dr (2^c) x) (hc:c<=20):TX c n (i+1) (rows++[xs]):=by
 obtain ⟨M,h0,h1,h2⟩:=h
 have dp:0 < vV (xs.map (·.den)):=xS λa ha=>by
  obtain ⟨x,_,rfl⟩:=az.mp ha;exact x.den_pos
 have dl:vV (xs.map (·.den))<=2^(c*n):=by
  have:=AN (k:=c) (l:=xs.map (·.den)) λa ha=>by
   obtain ⟨x,hx,rfl⟩:=az.mp ha;exact (hd x hx).2
  rwa [aj,hl] at this
 refine ⟨M*vV (xs.map (·.den)),a8 h0 dp,?_,λys hy x hx=>?_⟩
 ·rw[Tv,aF];exact ax h1 (ag dl (av (by decide) (by lia)))
 ·rcases aH.mp hy with hy | hy
  ·exact ((h2 ys hy x hx).scale _).mono (av (by decide) (by lia))
  ·have e:ys=xs:=by simpa using hy
   subst e;have f:Fr x.den (2^c) x:=Fr.own x (hd x hx).1;have g:=(f.dvd (xT (az.mpr ⟨x,hx,rfl⟩))).scaleL M;exact g.mono (av (by decide) (by lia))
def cp (rows:LR9) (w:Nat):LR9:=(List.range w).map λj=>rows.map λxs=>xs.getD j 0
def nL (one other:LR9) (w:Nat):LR9:=one.map λxs=>(cp other w).map λys=>cG ys xs
theorem cL:(cp rows w).length=w:=by simp [cp]
theorem iB:∀ys∈cp rows w,ys.length=rows.length:=λys hy=>by
 obtain ⟨j,_,rfl⟩:=az.mp hy;exact aj ..
theorem getD_map {α:Type} {l:List α} {f:α->Rat} (h:i < l.length):(l.map f).getD i 0=f l[i]:=by
 rw[aa,aB,af h];rfl
theorem LG (h:∀xs∈rows,xs.length=w):cp (cp rows w) rows.length=rows:=by
 apply fu
 ·exact cL
 ·intro i h1 h2;have e:(cp (cp rows w) rows.length)[i]=(cp rows w).map λxs=>xs.getD i 0:=by simp [cp]
  rw[e];have hw:=h rows[i] (aM h2);apply fu
  ·rw[aj,cL,hw]
  ·intro j h3 h4;rw[ji];have e2:(cp rows w)[j]'(by rw[cL];lia)=rows.map λxs=>xs.getD j 0:=by simp [cp]
   rw[e2,getD_map h2,aa,af h4];rfl
end Nm
namespace L2
open PySem PySem.Spec PyProof.Rows Nm
theorem cI.sqt {K:FG9} (u:cI b H H') (B:gh H b) (h:uQ K H a xs):uQ K H' a xs:=by
 rcases h with (h | ⟨o,h⟩) | h
 ·exact .inl (.inl (u.tup B h))
 ·exact .inl (.inr ⟨o,u.other (λz=>by obtain ⟨_,_,_,_,_,e,_⟩:=B;rw[z,e] at h;cases h) h⟩)
 ·exact .inr h
theorem Ni {K:FG9} (h:uQ K H a xs) (hl:H l=some (.lst ys)):uQ K (upd H l o) a xs:=by
 rcases h with (h | ⟨o,h⟩) | h
 ·exact .inl (.inl (by rw[bD λz=>by rw[z,hl] at h;cases h];exact h))
 ·exact .inl (.inr ⟨o,by rw[bD λz=>by rw[z,hl] at h;cases h];exact h⟩)
 ·exact .inr h
def b6 (K:FG9) (H:Hp) (q:Rat) (x:V):Prop:=J0 K H x (nm q)
section
variable {K:FG9} {H H':Hp} {q:Rat} {x:V} {b l p:Addr} {qs:List Rat}
theorem b6.same (h:b6 K H q x) (e:aI H H'):b6 K H' q x:=e.num h
theorem b6.upto (h:b6 K H q x) (u:cI b H H') (B:gh H b):b6 K H' q x:=by obtain ⟨p,e,s⟩:=h;exact ⟨p,e,u.sqt B s⟩
theorem b6.updL (h:b6 K H q x) (hl:H l=some (.lst ys)):b6 K (upd H l o) q x:=by obtain ⟨p,e,s⟩:=h;exact ⟨p,e,Ni s hl⟩
theorem b6.mk (h:H r=some (.tup [.int a,.int c])) (e:(a,c)=nm q):b6 K H q (.ref r):=⟨r,rfl,by rw[<- e];exact uQ.of h⟩
def cz (K:FG9) (H:Hp) (p:Addr) (qs:List Rat):Prop:=∃xs,H p=some (.lst xs)/\Paired (b6 K H) qs xs
theorem cz.same (h:cz K H p qs) (e:aI H H'):cz K H' p qs:=by obtain ⟨xs,g,r⟩:=h;exact ⟨xs,e _ _ g,Paired.imp' (λ_ _ z=>z.same e) r⟩
theorem cz.upto (h:cz K H p qs) (u:cI b H H') (B:gh H b) (n:p≠b):cz K H' p qs:=by obtain ⟨xs,g,r⟩:=h;exact ⟨xs,u.other n g,Paired.imp' (λ_ _ z=>z.upto u B) r⟩
theorem cz.updL (h:cz K H p qs) (hl:H l=some (.lst ys)) (n:p≠l):cz K (upd H l o) p qs:=by obtain ⟨xs,g,r⟩:=h;exact ⟨xs,by rw[bD n];exact g,Paired.imp' (λ_ _ z=>z.updL hl) r⟩
theorem yD {α β γ:Type} {F:α->β->Prop} {f:γ->α}:∀{l:List γ} {l2:List β},Paired (λc x=>F (f c) x) l l2->Paired F (l.map f) l2
 | _,_,.nil=>.nil
 | _,_,.cons r t=>.cons r (yD t)
theorem cz.rowK (h:cz K H p qs):JW K H p (qs.map nm):=by obtain ⟨xs,g,r⟩:=h;exact ⟨xs,g,yD (F:=λn x=>J0 K H x n) r⟩
def cY (K:FG9) (H0 H:Hp) (qs:List Rat) (x:V):Prop:=∃q,x=V.ref q/\H0 q=none/\cz K H q qs
def bB (K:FG9) (H0 H:Hp) (p:Addr) (rows:LR9):Prop:=∃xs,H p=some (.lst xs)/\Paired (cY K H0 H) rows xs/\V.ref p∉xs
theorem jD {rows:LR9} (h:∃H2,H2 p=none/\Paired (cY K H0 H2) rows ys):V.ref p∉ys:=λhm=>by
 obtain ⟨H2,e,pr⟩:=h;obtain ⟨qs,_,q,z,_,xs,g,_⟩:=dq pr hm;cases z;rw[e] at g;cases g
variable {H0:Hp} {rows:LR9}
theorem cY.same (h:cY K H0 H qs x) (e:aI H H'):cY K H0 H' qs x:=by obtain ⟨q,a,b,c⟩:=h;exact ⟨q,a,b,c.same e⟩
theorem cY.upto (h:cY K H0 H qs x) (u:cI b H H') (B:gh H b) (nb:H0 b≠none):cY K H0 H' qs x:=by obtain ⟨q,a,c,d⟩:=h;exact ⟨q,a,c,d.upto u B λz=>nb (by rw[<- z];exact c)⟩
theorem cY.weak (h:cY K H0 H qs x) (e:aI H1 H0):cY K H1 H qs x:=by obtain ⟨q,a,b,c⟩:=h;exact ⟨q,a,e.none b,c⟩
theorem bB.same (h:bB K H0 H p rows) (e:aI H H'):bB K H0 H' p rows:=by obtain ⟨xs,g,r,n⟩:=h;exact ⟨xs,e _ _ g,Paired.imp' (λ_ _ z=>z.same e) r,n⟩
theorem bB.upto (h:bB K H0 H p rows) (u:cI b H H') (B:gh H b) (n:p≠b) (nb:H0 b≠none):bB K H0 H' p rows:=by obtain ⟨xs,g,r,nn⟩:=h;exact ⟨xs,u.other n g,Paired.imp' (λ_ _ z=>z.upto u B nb) r,nn⟩
theorem bB.weak (h:bB K H0 H p rows) (e:aI H1 H0):bB K H1 H p rows:=by obtain ⟨xs,g,r,n⟩:=h;exact ⟨xs,g,Paired.imp' (λ_ _ z=>z.weak e) r,n⟩
end
def Om:Kind Rat:=VQ.via nm (λ_ _ e=>Tc e) (λK H x q=>b6 K H q x) id
def yH:Kind (List Rat):=UY Om
def Bp:Kind (LR9):=UY yH
theorem cz.kind {K:FG9} (h:cz K H p qs):yH.R K H (.ref p) qs:=by obtain ⟨xs,g,q⟩:=h;exact ⟨p,xs,rfl,bF.of g,q⟩
theorem bB.kind {K:FG9} (h:bB K H0 H p rows):Bp.R K H (.ref p) rows:=by obtain ⟨xs,g,q,_⟩:=h;exact ⟨p,xs,rfl,bF.of g,Paired.imp' (λ_ _ ⟨q,a,_,c⟩=>by rw[a];exact c.kind) q⟩
def kN (x:Rat):Prop:=Sz 200000 (nm x).1/\Sz 200000 (nm x).2
def Fits (l:List Rat):Prop:=∃M V:Nat,0 < M/\M<=2^900/\V<=2^900/\∀x∈l,Fr M V x
theorem Fits.szn (h:Fits l) (hx:x∈l):kN x:=by
 obtain ⟨M,V,h0,h1,h2,h3⟩:=h;obtain ⟨a,b⟩:=(h3 x hx).sz h0 h1 h2;exact ⟨a.mono (by decide),b.mono (by decide)⟩
theorem Fits.ok (h:Fits l) (hx:x∈l):Iy (nm x):=⟨jk x,E2 x,(h.szn hx).1.mono (by decide),(h.szn hx).2.mono (by decide)⟩
theorem JK {M V:Nat} (h0:0 < M) (h1:M<=2^1800) (h2:V<=2^1810) (h:Fr M V x):kN x:=by
 obtain ⟨a,b⟩:=h.sz h0 h1 h2;exact ⟨a.mono (by decide),b.mono (by decide)⟩
inductive o3 (K:FG9) (f:Rat->Rat->Rat) (vs:List V) (H:Hp) (Q:VK) (E9:XK):Prop
 | mk (u v:V) (x y:Rat):vs=[u,v]->b6 K H x u->b6 K H y v->kN x->kN y->(∀r H',aI H H'->b6 K H' (f x y) (.ref r)->Q (.ref r) H')->o3 K f vs H Q E9
section
variable {K:FG9} {vs:List V} {H:Hp} {Q:VK} {E:XK}
theorem Ju (hf:∀x y:Rat,(f x y)*(((nm x).2*(nm y).2:Int):Rat)=((F (nm x).1 (nm x).2 (nm y).1 (nm y).2:Int):Rat)) (h:o3 K f vs H Q E):Kt K F vs H Q E:=by
 obtain ⟨u,v,x,y,rfl,⟨p,rfl,hp⟩,⟨q,rfl,hq⟩,⟨s1,s2⟩,⟨s3,s4⟩,k⟩:=h;refine ⟨p,q,_,_,_,_,rfl,hp,hq,jk x,jk y,s1,s2,s3,s4,λr H' s g=>k r H' s (b6.mk g ?_)⟩;exact mX (jq (jk x) (jk y)) (hf x y)
theorem vB (x:Rat):(((nm x).1:Int):Rat)=x*(((nm x).2:Int):Rat):=by
 show (x.num:Rat)=x*(((x.den:Nat):Int):Rat)
 rw[jR,bc]
theorem Lp (h:o3 K (λx y=>x+y) vs H Q E):Kt K RI vs H Q E:=Ju (λx y=>by
 unfold RI;rw[Cq,aY,aY,aY,vB,vB];grind) h
theorem Ki (h:o3 K (λx y=>x - y) vs H Q E):Kt K OG vs H Q E:=Ju (λx y=>by
 unfold OG;rw[Rat.intCast_sub,aY,aY,aY,vB,vB];grind) h
theorem zS (h:o3 K (λx y=>x*y) vs H Q E):Kt K OF vs H Q E:=Ju (λx y=>by
 unfold OF;rw[aY,aY,vB,vB];grind) h
end
def Iw (M:Int) (ns:List (Int×Int)):Prop:=0 < M/\Sz 220000 M/\∀n∈ns,0 < n.2/\n.2∣M/\Sz 220000 n.1
theorem Iw.bot (h:Iw M ns):0 < fj ns/\Sz 220000 (fj ns):=by
 have hb:∀b∈ns.map (·.2),0 < b/\b∣M:=λb hb=>by
  obtain ⟨n,hn,rfl⟩:=az.mp hb;exact ⟨(h.2.2 n hn).1,(h.2.2 n hn).2.1⟩
 exact ⟨Bl (by decide) λb q=>(hb b q).1,Fe h.1 (zU (by decide) (Int.one_dvd _) hb) h.2.1⟩
inductive Nk (K:FG9) (vs:List V) (H:Hp) (Q:VK) (E9:XK):Prop
 | mk (p:Addr) (bs:List Int) (M:Int):vs=[.ref p]->bF K H p (bs.map V.int)->0 < M->Sz 220000 M->((∀b∈bs,0 < b/\b∣M))->Q (.int (ya bs 1)) H->Nk K vs H Q E9
inductive Nl (K:FG9) (vs:List V) (H:Hp) (Q:VK) (E9:XK):Prop
 | mk (p:Addr) (ns:List (Int×Int)) (M:Int):vs=[.ref p]->JW K H p ns->ns.length<=1000->Iw M ns->(∀H',aI H H'->Q (.int (fj ns)) H')->Nl K vs H Q E9
inductive FW (K:FG9) (vs:List V) (H:Hp) (Q:VK) (E9:XK):Prop
 | mk (p:Addr) (ns:List (Int×Int)) (M:Int) (B:Int):vs=[.ref p,.int B]->JW K H p ns->ns.length<=1000->Iw M ns->0 < B->Sz 220000 B->(∀r H',H r=none->aI H H'->H' r=some (.lst ((dO ns B).map V.int))->Q (.ref r) H')->FW K vs H Q E9
theorem vN (h:Iw M ns) (hB:0 < B) (sB:Sz 220000 B) (ht:t∈dO ns B):Sz 440000 t:=by
 obtain ⟨n,hn,rfl⟩:=az.mp ht;have hp:=h.2.2 n hn
 have sq:Sz 220000 (B / n.2):=sB.le (by
  rw[T2 (by lia)];exact Nat.div_le_self ..)
 exact (hp.2.2.mul sq).mono (by lia)
theorem qW (h:(nm x).2∣B):(((nm x).1*(B / (nm x).2):Int):Rat)=x*(B:Rat):=by
 obtain ⟨k,rfl⟩:=h;have hp:=jk x;rw[Int.mul_ediv_cancel_left _ (by lia),aY,aY,vB];grind
theorem HV {B C:Int}:∀{xs ys:List Rat},(∀x∈xs,(nm x).2∣B)->(∀y∈ys,(nm y).2∣C)->(((List.zipWith (λx y=>x*y) (dO (xs.map nm) B) (dO (ys.map nm) C)).sum:Int):Rat)=cG xs ys*((B:Rat)*(C:Rat))
 | [],ys,_,_=>by simp [dO,cG]
 | x :: xs,[],_,_=>by simp [dO,cG]
 | x :: xs,y :: ys,h1,h2=>by
  have ih:=HV (B:=B) (C:=C) (xs:=xs) (ys:=ys) (λz hz=>h1 z (.tail _ hz)) (λz hz=>h2 z (.tail _ hz));have e1:=qW (h1 x (.head _));have e2:=qW (h2 y (.head _));have e3:(List.zipWith (λx y=>x*y) (dO ((x :: xs).map nm) B) (dO ((y :: ys).map nm) C)).sum=((nm x).1*(B / (nm x).2))*((nm y).1*(C / (nm y).2))+(List.zipWith (λx y=>x*y) (dO (xs.map nm) B) (dO (ys.map nm) C)).sum:=rfl;have e4:cG (x :: xs) (y :: ys)=x*y+cG xs ys:=rfl;rw[e3,e4,Cq,aY,ih,e1,e2];grind
theorem La (h1:0 < fj (xs.map nm)) (h2:0 < fj (ys.map nm)):(lo (JR (xs.map nm) (ys.map nm)) (fj (xs.map nm)*fj (ys.map nm)),hi (JR (xs.map nm) (ys.map nm)) (fj (xs.map nm)*fj (ys.map nm)))=nm (cG xs ys):=by
 refine mX (jq h1 h2) ?_;unfold JR;rw[HV (λx hx=>tj (az.mpr ⟨x,hx,rfl⟩)) (λx hx=>tj (az.mpr ⟨x,hx,rfl⟩)),aY]
inductive FV (K:FG9) (vs:List V) (H:Hp) (Q:VK) (E9:XK):Prop
 | mk (p:Addr) (w:Nat) (H0:Hp) (rows:LR9):vs=[.ref p,.int w]->bB K H0 H p rows->rows.length<=1000->w<=1000->(∀xs∈rows,xs.length=w)->(∀r H',H r=none->aI H H'->bB K H H' r (cp rows w)->Q (.ref r) H')->FV K vs H Q E9
def RW (m:Nat) (a:Int):List Rat:=(List.range m).map λ(i:Nat)=>if ((i:Nat):Int)=a then 1 else 0
inductive FU (K:FG9) (vs:List V) (H:Hp) (Q:VK) (E9:XK):Prop
 | mk (m:Nat) (a:Int):vs=[.int m,.int a]->m<=1000->(∀r H',H r=none->aI H H'->cz K H' r (RW m a)->Q (.ref r) H')->FU K vs H Q E9
inductive Ap (K:FG9) (vs:List V) (H:Hp) (Q:VK) (E9:XK):Prop
 | mk (b:Addr) (w:Nat):vs=[.ref b,.int w]->gh H b->1<=w->w<=1000000->(∀r x H',Dr (max w 6) x->b6 K H' x (.ref r)->gh H' b->cI b H H'->Q (.ref r) H')->Ap K vs H Q E9
inductive Gf (K:FG9) (vs:List V) (H:Hp) (Q:VK) (E9:XK):Prop
 | mk (b:Addr) (m w:Nat):vs=[.ref b,.int m,.int w]->gh H b->m<=1000->1<=w->w<=1000000->(∀r xs H',H r=none->cz K H' r xs->xs.length=m->(∀x∈xs,Dr (max w 6) x)->gh H' b->cI b H H'->Q (.ref r) H')->Gf K vs H Q E9
inductive F0 (K:FG9) (vs:List V) (H:Hp) (Q:VK) (E9:XK):Prop
 | mk (p q:Addr) (xs ys:List Rat):vs=[.ref p,.ref q]->cz K H p xs->cz K H q ys->ys.length=xs.length->xs.length<=1000->(∀x∈xs,kN x)->(∀y∈ys,kN y)->(∀r H',H r=none->aI H H'->cz K H' r (List.zipWith (λx y=>x+y) xs ys)->Q (.ref r) H')->F0 K vs H Q E9
inductive Nn (K:FG9) (vs:List V) (H:Hp) (Q:VK) (E9:XK):Prop
 | mk (u:V) (q:Addr) (c:Rat) (ys:List Rat):vs=[u,.ref q]->b6 K H c u->kN c->cz K H q ys->ys.length<=1000->(∀y∈ys,kN y)->(∀r H',H r=none->aI H H'->cz K H' r (ys.map λy=>c*y)->Q (.ref r) H')->Nn K vs H Q E9
inductive Au (K:FG9) (vs:List V) (H:Hp) (Q:VK) (E9:XK):Prop
 | mk (p:Addr) (H0:Hp) (rows:LR9):vs=[.ref p]->bB K H0 H p rows->rows.length<=1000->(∀xs∈rows,xs.length<=1000)->(∀r H',H r=none->aI H H'->bB K H H' r rows->Q (.ref r) H')->Au K vs H Q E9
section
variable {K:FG9} {a:Addr} {xs:List V} {g:TG} {tf:TT} {te:TE} {Q:VK} {σ₀:St} {H:Hp} {α β:Type}
theorem dm {F:Hp->α->V->Prop} (G:Hp->β->V->Prop) (f:α->β) (hx:H a=some (.lst xs)) (pf:Paired (F H) as xs) (hl:as.length<=1000)
  (hF:∀{H H' c x},F H c x->aI H H'->F H' c x) (hG:∀{H H' c x},G H c x->aI H H'->G H' c x)
  (hs:∀(i:Nat) c x H' NY NN,as[i]?=some c->aI H H'->F H' c x->(∀y H2,aI H' H2->G H2 (f c) y->NY y H2)->qE σ₀ g tf te x H' NY NN)
  (hd:∀ys H' p,H p=none->aI H H'->H' p=some (.lst ys)->Paired (G H') (as.map f) ys->(∃H2,H2 p=none/\Paired (G H2) (as.map f) ys)->Q (.ref p) H'):qP (QY K a) σ₀ g tf te Q H:=by
 have lx:=pf.length;refine fJ (K:=K) (xs:=xs) (λi ys H'=>aI H H'/\Paired (G H') ((as.take i).map f) ys) (aT (br (by lia))) ⟨aI.refl _,.nil⟩ (λi ys H' _ ⟨s,_⟩=>bF.of (s _ _ hx)) ?_ ?_
 ·rintro i x ys H' hx' hlen ⟨s,pr⟩;obtain ⟨c,ec,hc⟩:=bT pf hx';refine hs i c x H' _ _ ec s (hF hc s) λy H2 s2 gy=>⟨s.trans s2,?_⟩
  rw[take_snoc ec,b7];exact bV (Paired.imp' (λ_ _ z=>hG z s2) pr) (.cons gy .nil)
 ·rintro ys H' hy ⟨s,pr⟩ p hp;rw[aE (by lia)] at pr;exact hd ys _ p (s.none hp) (s.trans (aI.new hp)) aJ (Paired.imp' (λ_ _ z=>hG z (aI.new hp)) pr) ⟨H',hp,pr⟩
theorem jc (G:Hp->β->V->Prop) (f:Nat->β) (hl:n<=1000) (hG:∀{H H' c x},G H c x->aI H H'->G H' c x)
  (hs:∀(i:Nat) H' NY NN,i < n->aI H H'->(∀y H2,aI H' H2->G H2 (f i) y->NY y H2)->qE σ₀ g tf te (.int i) H' NY NN)
  (hd:∀ys H' p,H p=none->aI H H'->H' p=some (.lst ys)->Paired (G H') ((List.range n).map f) ys->(∃H2,H2 p=none/\Paired (G H2) ((List.range n).map f) ys)->Q (.ref p) H'):qP (IP 0 n) σ₀ g tf te Q H:=by
 refine qj (λi ys H'=>aI H H'/\Paired (G H') ((List.range i).map f) ys) (aT (br (by lia))) ⟨aI.refl _,.nil⟩ ?_ ?_
 ·rintro i ys H' hi hlen ⟨s,pr⟩;rw[Ae];refine hs i H' _ _ hi s λy H2 s2 gy=>⟨s.trans s2,?_⟩
  rw[qT,b7];exact bV (Paired.imp' (λ_ _ z=>hG z s2) pr) (.cons gy .nil)
 ·rintro ys H' hy ⟨s,pr⟩ p hp;exact hd ys _ p (s.none hp) (s.trans (aI.new hp)) aJ (Paired.imp' (λ_ _ z=>hG z (aI.new hp)) pr) ⟨H',hp,pr⟩
theorem yi (G:Hp->β->V->Prop) (C:β->Prop) (hB:gh H b) (hl:n<=1000) (hG:∀{H' H'' c x},G H' c x->cI b H' H''->gh H' b->G H'' c x)
  (hs:∀(i:Nat) H' NY NN,i < n->cI b H H'->gh H' b->(∀y c H2,cI b H' H2->gh H2 b->C c->G H2 c y->NY y H2)->qE σ₀ g tf te (.int i) H' NY NN)
  (hd:∀ys cs H' p,H p=none->cI b H H'->gh H' b->H' p=some (.lst ys)->cs.length=n->(∀c∈cs,C c)->Paired (G H') cs ys->(∃H2,H2 p=none/\Paired (G H2) cs ys)->Q (.ref p) H'):qP (IP 0 n) σ₀ g tf te Q H:=by
 refine qj (λi ys H'=>cI b H H'/\gh H' b/\∃cs,cs.length=i/\(∀c∈cs,C c)/\Paired (G H') cs ys) (aT (br (by lia))) ⟨(aI.refl _).upto,hB,[],rfl,(λ_ z=>nomatch z),.nil⟩ ?_ ?_
 ·rintro i ys H' hi hlen ⟨u,B,cs,lc,hc,pr⟩;rw[Ae];refine hs i H' _ _ hi u B λy c H2 u2 B2 cc gy=>⟨u.trans u2,B2,cs++[c],by simp [lc],zY hc cc,bV (Paired.imp' (λ_ _ z=>hG z u2 B) pr) (.cons gy .nil)⟩
 ·rintro ys H' hy ⟨u,B,cs,lc,hc,pr⟩ p hp;have s:aI H' (upd H' p (.lst ys)):=aI.new hp;exact hd ys cs _ p (u.none B hp) (u.same s) (B.same s) aJ lc hc (Paired.imp' (λ_ _ z=>hG z s.upto B) pr) ⟨H',hp,pr⟩
end
section
variable {X:Cx}
theorem d9 {g:TG} {tb:TS} {D:Ends} (Pv:Nat->St->Hp->Prop) (h0:Pv 0 σ H)
  (hs:∀(i:Nat) σ H,i < n->Pv i σ H->g (.int i) σ H λσ2 H2=>tb { D with nx:=Pv (i+1),ct:=Pv (i+1),bk:=D.nx } σ2 H2) (hd:∀σ H,Pv n σ H->D.nx σ H) :
  ∃W:Nat->Nat->St->Hp->Prop,(∃m,W 0 m σ H)/\∀i m σ H,W i m σ H →
   ((IP 0 n).stop i H/\D.nx σ H)\/((IP 0 n).go i H/\∃N:St->Hp->Prop,(∀σ' H',N σ' H'->∃m',m' < m/\W (i+1) m' σ' H')/\∀x H',(IP 0 n).yld i H x H'->g x σ H' λσ2 H2=>tb { D with nx:=N,ct:=N,bk:=D.nx } σ2 H2) :=
 DG (lo:=0) Pv h0 (λi σ H hi p=>by rw[Ae];exact hs i σ H hi p) hd
theorem oQ:oV X (.type "int") (λxs H Q=>∃b:Bool,xs=[.bl b]/\Q (.int (if b=true then 1 else 0)) H):=by
 intro pins s σ H xs us Q I r h;obtain ⟨b,rfl,q⟩:=h;obtain ⟨u,rfl,ru⟩:=vals1 r;cases ru;exact call_int_bool ⟨.int _,H,I.tok _,⟨_,rfl⟩,q⟩
theorem CL (K:FG9) (hK:X.K=K):oV X (.builtin "len") (λxs H Q=>∃p ys,xs=[.ref p]/\(bF K H p ys\/uQ K H p ys)/\Q (.int ys.length) H):=by subst hK;exact be
theorem Kz {st:Stmt}:PS X st (λ_ _ _=>False):=λ_ _ _ _ _ _ h=>h.elim
end
theorem JF {t b:Int} (hb:0 < b) (h1:t.natAbs<=W) (h2:b.natAbs<=W):∃q:Rat,(lo t b,hi t b)=nm q/\Dr W q/\q*(b:Rat)=(t:Rat):=by
 have hb':(b:Rat)≠0:=λz=>by have:=zD.mp z;lia
 have e:(t:Rat) / (b:Rat)*(b:Rat)=t:=lX hb';have h:=mX hb e;refine ⟨_,h,⟨?_,?_⟩,e⟩
 ·have:=congrArg Prod.fst h;have z:=lo_le (t:=t) (b:=b) (by lia);show ((nm ((t:Rat) / (b:Rat))).1).natAbs<=W
  rw[<- this];exact ag z h1
 ·have:=congrArg Prod.snd h;have z:=RE (t:=t) (b:=b) (by lia);have hd:(((t:Rat) / (b:Rat)).den:Int)=hi t b:=this.symm;have hp:=JH (t:=t) hb
  lia
theorem ML {K:FG9} (h:Paired (b6 K H) qs xs) (hj:j < qs.length):∃v,JT xs (j:Int)=some v/\b6 K H (qs.getD j 0) v:=by
 have hl:=h.length;refine ⟨xs[j]'(by lia),dA (by simp),?_⟩;have:=iP h (i:=j) hj (by lia);rwa [aa,af hj]
theorem DI {xs ys:List Rat} (h1:i < xs.length) (h2:i < ys.length):cG (xs.take (i+1)) (ys.take (i+1))=cG (xs.take i) (ys.take i)+xs.getD i 0*ys.getD i 0:=by
 have e1:xs[i]?=some (xs.getD i 0):=by rw[aa,af h1];rfl
 have e2:ys[i]?=some (ys.getD i 0):=by rw[aa,af h2];rfl
 unfold cG;rw[take_snoc e1,take_snoc e2,FH (by simp;lia),List.sum_append];simp [nD]
theorem getD_mem {xs:List Rat} (h:i < xs.length):xs.getD i 0∈xs:=by
 rw[aa,af h];exact aM h
theorem CY {xs ys:List Rat} (h:ys.length=xs.length):List.zipWith (λx y=>x+y) xs ys=(List.range xs.length).map λi=>xs.getD i 0+ys.getD i 0:=by
 apply nJ;intro i;rw[bu,aB];by_cases hi:i < xs.length
 ·rw[cM hi,af hi,af (show i < ys.length by lia)];simp [aa,af hi,af (show i < ys.length by lia)]
 ·rw[bg (show (List.range xs.length).length<=i by simp;lia),bg (show xs.length<=i by lia)];rfl
theorem cY.updL {K:FG9} (h:cY K H0 H qs x) (hl:H l=some (.lst ys)) (nl:H0 l≠none):cY K H0 (upd H l o) qs x:=by obtain ⟨q,a,b,c⟩:=h;exact ⟨q,a,b,c.updL hl λz=>nl (by rw[<- z];exact b)⟩
theorem gh.at (B:gh H b):H b≠none:=by obtain ⟨_,_,_,_,_,e,_⟩:=B;rw[e];simp
theorem Inner.at (B:gh H b) (i:Inner H b q):H q≠none:=by
 obtain ⟨q',i',xs,e⟩:=B.inner;rw[<- Inner.inj i' i,e];simp
theorem dF {F:α->β->Prop} {l1:List α} {l2:List β} (h:Paired F l1 l2) (hi:i < l1.length):∃x y,l1[i]?=some x/\l2[i]?=some y/\x∈l1/\F x y:=by
 have hl:=h.length;exact ⟨l1[i],l2[i]'(by lia),by simp,by simp,aM _,iP h hi (by lia)⟩
theorem Fj (h1:-(2^64) < i) (h2:i < 2^64):iw i j:=.inl (.inl ⟨h1,h2⟩)
theorem QL (h1:-(2^64) < j) (h2:j < 2^64):iw i j:=.inl (.inr ⟨h1,h2⟩)
def TU (K : FG9) (l : Addr) : It :=
  ⟨λi H => ∃ xs x, bF K H l xs /\ xs[i]? = some x,
   λi H v H' => ∃ p x, v = .ref p /\ H p = none /\ H' = upd H p (.tup [.int i, x]) /\ ∀ xs, bF K H l xs → xs[i]? = some x,
   λi H => ∃ xs, bF K H l xs /\ xs.length ≤ i⟩
def tnE (e it l:Addr) (i:Nat) (h:Heap):Prop:=(∃old,IsEnum h e it i old)/\h.IsListIter it l i
theorem LI {P:Program} {w:World} {K:FG9} {elts:List Expr} {kk:Nat} {tpos:Pos} (e it l:Addr) (hei:e≠it):Turn P w K (.Tuple elts kk tpos) (TU K l) [e,it] e (tnE e it l) where
 mem:=by simp
 obj:=λi h st b hb=>by
  obtain ⟨⟨old,he⟩,⟨o1,g1,c1,d1⟩⟩:=st;simp only[aL,a9,or_false] at hb;rcases hb with rfl | rfl
  ·exact ⟨_,he,λv q=>nomatch q⟩
  ·exact ⟨o1,g1,λv q=>by rw[d1] at q;cases q⟩
 keep:=λi h h' st k=>by
  obtain ⟨⟨old,he⟩,h1⟩:=st;exact ⟨⟨old,k e (by simp) _ he⟩,h1.at λo q=>k it (by simp) o q⟩
 item:=by
  intro X hP hw hK hc i pins s σ H E I hf st hg;subst hP hw hK;obtain ⟨⟨old,he⟩,h1⟩:=st;obtain ⟨xs,x,qx,ex⟩:=hg;obtain ⟨us,rx,px,_⟩:=I.list qx;obtain ⟨u,eu,ru⟩:=rx.get ex;refine wpAny_pyNext_enum_item he h1 px.isList (x:=u) (by simpa using eu) hei λh' a1 a2 a3 a4 hk=>?_
  refine ⟨_,rfl,wpAny_letOwnedTupleGo_enum a1 λh'' he'' hs=>?_⟩;have hT0:H s.heap.objs.size=none:=I.hok.fresh (au _);have ene:s.heap.objs.size≠e:=LB (Heap.lt_size he)
  have up:∀b o,b∉[e,it]->s.heap.get? b=some o->h''.get? b=some o:=λb o hb q=>by
   simp only[aL,a9,or_false,not_or] at hb;exact (hs.2 b hb.1).trans (hk b o hb.1 hb.2 q)
  have tup:h''.get? s.heap.objs.size=some { cls:=.type "tuple",data:=.seq #[.int i s.toks,u] }:=(hs.2 _ ene).trans a3;have I1:Inv X pins σ H { s with heap:=h'',toks:=s.toks+1 }:=I.moved (g':=s.gens) (d':=s.drawn) (t':=s.toks+1) (ch:=[e,it]) hf up I.bare;have fT:kx X pins H s.heap.objs.size:=I.fpOk (au _) hT0;have I2:=I1.track (o:=.tup [.int i,x]) fT ⟨jI rfl,[.int i s.toks,u],.cons ⟨_,rfl⟩ (.cons ru .nil),⟨_,tup,rfl,_,rfl⟩⟩;refine ⟨.ref s.heap.objs.size,_,I2,rfl,⟨_,x,rfl,hT0,rfl,λxs' q=>by rw[I.list_inj q qx];exact ex⟩,?_,λb hb=>?_⟩
  ·exact ⟨⟨_,by simpa using he''⟩,a2.at λo q=>(hs.2 _ hei.symm).trans q⟩
  ·rw[bD]
   ·exact (hf b hb).1
   ·obtain ⟨o1,g1,_⟩:=h1;simp only[aL,a9,or_false] at hb;rcases hb with rfl | rfl
    ·exact ene.symm
    ·exact cV (Heap.lt_size g1)
 done:=by
  intro X hP hw hK hc i pins s σ H E I hf st hg;subst hP hw hK;obtain ⟨⟨old,he⟩,h1⟩:=st;obtain ⟨xs,qx,hend⟩:=hg;obtain ⟨us,rx,px,_⟩:=I.list qx;have lx:=rx.length;refine wpAny_pyNext_enum_end (I.ok.hd hc) he h1 px.isList (by simp;lia) λh' hk=>⟨rfl,?_⟩
  exact I.moved (g':=s.gens) (d':=s.drawn) (t':=s.toks) (ch:=[e,it]) hf (λb o hb q=>hk b o (λz=>hb (by simp [z])) q) I.bare
 self:=λ_ _ _ _ _ st h=>let ⟨⟨_,he⟩,_⟩:=st;wpAny_pyIter_enum he h
section
variable {X:Cx}
def RD (K:FG9) (ta:TA):TI:=λσ H R=>ta σ H λvs H1=>∃l,vs=[.ref l]/\(∃xs,bF K H1 l xs)/\R (TU K l) H1
theorem KG {a:Expr} {ta:TA} {p pos tpos:Pos} {elts:List Expr} {kk:Nat} (hg:Gl X "enumerate") (hm:X.mg "enumerate"=none) (ha:PA X [a] ta) (hs:starEach [a] X.env=[(false,eval a X.env)]:=by rfl) :
  PI X (.Tuple elts kk tpos) (.Call (.Name "enumerate" p) [a] [] pos) (RD X.K ta):=by
 intro pins s σ H R I h;refine Call_ (kZ I hg hm boot_enumerate (PyProof.Rows.callWith_type1 (iq (ha pos pins s σ H _ I h) λus s1 ⟨vs,H1,I1,r1,q1⟩=>?_) (by rw[hs];rfl) rfl));obtain ⟨l,e,⟨xs,qx⟩,q⟩:=q1;subst e;obtain ⟨u,rfl,ru⟩:=vals1 r1;cases ru;obtain ⟨us,rx,px,_⟩:=I1.list qx;refine call_enumerate_list px.isList λh' a1 a2 a3 hk=>wpAny_pyIter_enum a1 ?_
 have I2:Inv X pins σ H1 { s1 with heap:=h' }:=I1.kept (t':=s1.toks) hk;refine ⟨_,[s1.heap.objs.size+1,s1.heap.objs.size],_,_,H1,rfl,I2,LI (s1.heap.objs.size+1) s1.heap.objs.size l (Nat.succ_ne_self _),⟨⟨_,a1⟩,a2⟩,λb hb=>?_,q⟩
 have hb':s1.heap.objs.size<=b:=by
  simp only[aL,a9,or_false] at hb;rcases hb with rfl | rfl <;> first | exact Ee _ | exact au _
 exact I1.fpOk hb' (I1.hok.fresh hb')
end
theorem NI {K:FG9} (h:ta σ H λvs H1=>∃l,vs=[.ref l]/\(∃xs,bF K H1 l xs)/\R (TU K l) H1):RD K ta σ H R:=h
theorem OC {K:FG9} {g:TG} {tb:TS} {D:Ends} (Pv:Nat->St->Hp->Prop) (h0:Pv 0 σ H) (hl:∀i σ H,i<=xs.length->Pv i σ H->bF K H l xs)
  (hs:∀i x σ H p,xs[i]?=some x->Pv i σ H->H p=none->g (.ref p) σ (upd H p (.tup [.int i,x])) λσ2 H2=>tb { D with nx:=Pv (i+1),ct:=Pv (i+1),bk:=D.nx } σ2 H2) (hd:∀σ H,Pv xs.length σ H->D.nx σ H) :
  ∃W:Nat->Nat->St->Hp->Prop,(∃m,W 0 m σ H)/\∀i m σ H,W i m σ H →
   ((TU K l).stop i H/\D.nx σ H)\/((TU K l).go i H/\∃N:St->Hp->Prop,(∀σ' H',N σ' H'->∃m',m' < m/\W (i+1) m' σ' H')/\∀x H',(TU K l).yld i H x H'->g x σ H' λσ2 H2=>tb { D with nx:=N,ct:=N,bk:=D.nx } σ2 H2):=by
 refine ⟨λi m σ H=>m=xs.length - i/\i<=xs.length/\Pv i σ H,⟨xs.length,by simp,bC _,h0⟩,?_⟩;rintro i m σ H ⟨rfl,hi,p⟩;have q1:=hl i σ H hi p;by_cases hlt:i < xs.length
 ·refine .inr ⟨⟨xs,xs[i],q1,by simp [hlt]⟩,Pv (i+1),λσ' H' p'=>⟨xs.length - (i+1),by lia,rfl,hlt,p'⟩,λx H' y=>?_⟩;obtain ⟨r,x',rfl,hr,rfl,e1⟩:=y;exact hs i x' σ _ r (e1 xs q1) p hr
 ·have e:i=xs.length:=by lia
  subst e;exact .inl ⟨⟨xs,q1,au _⟩,hd σ H p⟩
section
variable {X:Cx}
theorem KJ (K:FG9) {e:Expr} {f:Str} {pos:Pos} {ta:TE} (he:PE X e ta) (hb:attributeBase e f X.env (eval e X.env)=eval e X.env) (hK:X.K=K:=by rfl):PE X (.Attribute e f pos) (Sg K ta f):=by subst hK;exact eP he hb
end
theorem SS {K:FG9} (h:ta σ H λx H1=>∃a C dx fs v,x=.ref a/\H1 a=some (.ins C dx fs)/\MG K C/\j6 K C f/\fs.lookup f=some v/\Q v H1):Sg K ta f σ H Q:=h
theorem PM {K:FG9} (h:tv σ H λy H1=>ta σ H1 λx H2=>∃a C dx fs,x=.ref a/\H2 a=some (.ins C dx fs)/\MG K C/\j6 K C f/\fs.length < 1000 /\
 D.nx σ (upd H2 a (.ins C dx (cF f y fs)))):Uw K ta tv f D σ H:=h
theorem PV (h:ta σ H λx H1=>∃a dx fs,x=.ref a/\H1 a=some (.ins C dx fs)/\fs.lookup m=none /\
 t σ H1 λvs H2=>sp (x :: vs) H2 Q E):Nc C m sp [] E ta t σ H Q:=by
 have e:(λ(x:V) H1=>∃a dx fs,x=.ref a/\H1 a=some (.ins C dx fs)/\fs.lookup m=none/\t σ H1 λvs H2=>sp (x :: (vs++[])) H2 Q E)=λx H1=>∃a dx fs,x=.ref a/\H1 a=some (.ins C dx fs)/\fs.lookup m=none/\t σ H1 λvs H2=>sp (x :: vs) H2 Q E:=by
  funext x H1;simp only[lU]
 show ta σ H (λ(x:V) H1=>∃a dx fs,x=.ref a/\H1 a=some (.ins C dx fs)/\fs.lookup m=none/\t σ H1 λvs H2=>sp (x :: (vs++[])) H2 Q E)
 rw[e];exact h
theorem PX (h:t σ H λvs H1=>∀x dx,H1 x=none->H1 dx=none->dx≠x →
 sp (.ref x :: vs) (upd (upd H1 dx (.own x)) x (.ins C dx [])) (λv H2=>v=.non/\Q (.ref x) H2) E):Q9 C sp [] E t σ H Q:=by
 have e:(λvs (H1:Hp)=>∀x dx,H1 x=none->H1 dx=none->dx≠x->sp (.ref x :: (vs++[])) (upd (upd H1 dx (.own x)) x (.ins C dx [])) (λv H2=>v=.non/\Q (.ref x) H2) E)=λvs H1=>∀x dx,H1 x=none->H1 dx=none->dx≠x->sp (.ref x :: vs) (upd (upd H1 dx (.own x)) x (.ins C dx [])) (λv H2=>v=.non/\Q (.ref x) H2) E:=by
  funext vs H1;simp only[lU]
 show t σ H (λvs (H1:Hp)=>∀x dx,H1 x=none->H1 dx=none->dx≠x->sp (.ref x :: (vs++[])) (upd (upd H1 dx (.own x)) x (.ins C dx [])) (λv H2=>v=.non/\Q (.ref x) H2) E)
 rw[e];exact h
def FD (x:Addr) (H H':Hp):Prop:=∀b o,H b=some o->b≠x->H' b=some o
theorem FD.upd:FD x H (L2.upd H x o):=λb u h n=>by rw[bD n];exact h
def uS (H:Hp) (x:Addr):Prop:=∃C dx fs,H x=some (.ins C dx fs)
section
variable {K:FG9} {H H' H0:Hp} {q:Rat} {v:V} {x p:Addr} {qs:List Rat} {rows:LR9}
theorem b6.exc (h:b6 K H q v) (e:FD x H H') (hx:uS H x):b6 K H' q v:=by
 obtain ⟨C,dx,fs,hx⟩:=hx;obtain ⟨r,er,s⟩:=h;refine ⟨r,er,?_⟩;rcases s with (h | ⟨o,h⟩) | h
 ·exact .inl (.inl (e _ _ h λz=>by rw[z,hx] at h;cases h))
 ·exact .inl (.inr ⟨o,e _ _ h λz=>by rw[z,hx] at h;cases h⟩)
 ·exact .inr h
theorem cz.exc (h:cz K H p qs) (e:FD x H H') (hx:uS H x):cz K H' p qs:=by
 obtain ⟨xs,g,r⟩:=h;have hx':=hx;obtain ⟨C,dx,fs,hx⟩:=hx;exact ⟨xs,e _ _ g (λz=>by rw[z,hx] at g;cases g),Paired.imp' (λ_ _ z=>z.exc e hx') r⟩
theorem cY.exc (h:cY K H0 H qs v) (e:FD x H H') (hx:uS H x):cY K H0 H' qs v:=by obtain ⟨q,a,b,c⟩:=h;exact ⟨q,a,b,c.exc e hx⟩
theorem bB.exc (h:bB K H0 H p rows) (e:FD x H H') (hx:uS H x):bB K H0 H' p rows:=by
 obtain ⟨xs,g,r,n⟩:=h;have hx':=hx;obtain ⟨C,dx,fs,hx⟩:=hx;exact ⟨xs,e _ _ g (λz=>by rw[z,hx] at g;cases g),Paired.imp' (λ_ _ z=>z.exc e hx') r,n⟩
end
def lB (a b c:Addr) (n i o:Nat):List (Str×V):=cF "outs" (.int o) (cF "look" (.ref c) (cF "ins" (.int i) (cF "put" (.ref b) (cF "states" (.int n) (cF "move" (.ref a) [])))))
section
variable {a b c:Addr} {n i o:Nat}
theorem FR:(lB a b c n i o).lookup ("look":Str)=some (.ref c):=by
 unfold lB;rw[bE,if_neg (by decide +kernel),bE,if_pos rfl]
theorem Pl:(lB a b c n i o).lookup ("ins":Str)=some (.int i):=by
 unfold lB;rw[bE,if_neg (by decide +kernel),bE,if_neg (by decide +kernel),bE,if_pos rfl]
theorem zP:(lB a b c n i o).lookup ("put":Str)=some (.ref b):=by
 unfold lB;rw[bE,if_neg (by decide +kernel),bE,if_neg (by decide +kernel),bE,if_neg (by decide +kernel),bE,if_pos rfl]
theorem ia:(lB a b c n i o).lookup ("states":Str)=some (.int n):=by
 unfold lB;rw[bE,if_neg (by decide +kernel),bE,if_neg (by decide +kernel),bE,if_neg (by decide +kernel),bE,if_neg (by decide +kernel),bE,if_pos rfl]
theorem qY:(lB a b c n i o).lookup ("move":Str)=some (.ref a):=by
 unfold lB;rw[bE,if_neg (by decide +kernel),bE,if_neg (by decide +kernel),bE,if_neg (by decide +kernel),bE,if_neg (by decide +kernel),bE,if_neg (by decide +kernel),bE,if_pos rfl]
theorem Jb {m:Str} (h1:¬m="outs") (h2:¬m="look") (h3:¬m="ins") (h4:¬m="put") (h5:¬m="states") (h6:¬m="move"):(lB a b c n i o).lookup m=none:=by
 unfold lB;rw[bE,if_neg h1,bE,if_neg h2,bE,if_neg h3,bE,if_neg h4,bE,if_neg h5,bE,if_neg h6];rfl
theorem LJ:(lB a b c n i o).lookup ("moved":Str)=none:=Jb (by decide +kernel) (by decide +kernel) (by decide +kernel) (by decide +kernel) (by decide +kernel) (by decide +kernel)
theorem Ng:(lB a b c n i o).lookup ("seen":Str)=none:=Jb (by decide +kernel) (by decide +kernel) (by decide +kernel) (by decide +kernel) (by decide +kernel) (by decide +kernel)
theorem Ja:(lB a b c n i o).lookup ("turned":Str)=none:=Jb (by decide +kernel) (by decide +kernel) (by decide +kernel) (by decide +kernel) (by decide +kernel) (by decide +kernel)
end
theorem eU {k:Str} {v:V}:∀{l:List (Str×V)},(cF k v l).length<=l.length+1
 | []=>au _
 | (x,y) :: r=>by
  unfold cF
  split
  ·simp
  ·have:=eU (k:=k) (v:=v) (l:=r);simp only[bQ]
   lia
structure fk (mv pt lk:LR9):Prop where
 n8:mv.length<=8
 i4:pt.length<=4
 o4:lk.length<=4
 mw:∀xs∈mv,xs.length=mv.length
 pw:∀xs∈pt,xs.length=mv.length
 lw:∀xs∈lk,xs.length=mv.length
def uR (mv pt lk:LR9):Prop:=∃M V:Nat,0 < M/\M<=2^800/\V<=2^400/\GF M V mv/\GF M V pt/\GF M V lk
def jB (K:FG9) (H0 H:Hp) (C p:Addr) (mv pt lk:LR9):Prop:=∃dx a b c,H p=some (.ins C dx (lB a b c mv.length pt.length lk.length))/\H0 a=none/\H0 b=none/\H0 c=none/\bB K H0 H a mv/\bB K H0 H b pt/\bB K H0 H c lk
section
variable {K:FG9} {H H' H0 H1:Hp} {C p b:Addr} {mv pt lk:LR9}
theorem jB.same (h:jB K H0 H C p mv pt lk) (e:aI H H'):jB K H0 H' C p mv pt lk:=by obtain ⟨dx,a,b,c,g,n1,n2,n3,g1,g2,g3⟩:=h;exact ⟨dx,a,b,c,e _ _ g,n1,n2,n3,g1.same e,g2.same e,g3.same e⟩
theorem jB.upto (h:jB K H0 H C p mv pt lk) (u:cI b H H') (B:gh H b) (nb:H0 b≠none):jB K H0 H' C p mv pt lk:=by
 obtain ⟨dx,a,b',c,g,n1,n2,n3,g1,g2,g3⟩:=h;refine ⟨dx,a,b',c,u.other (λz=>by obtain ⟨_,_,_,_,_,e,_⟩:=B;rw[z,e] at g;cases g) g,n1,n2,n3,g1.upto u B (λz=>nb (by rw[<- z];exact n1)) nb,g2.upto u B (λz=>nb (by rw[<- z];exact n2)) nb,g3.upto u B (λz=>nb (by rw[<- z];exact n3)) nb⟩
theorem jB.weak (h:jB K H0 H C p mv pt lk) (e:aI H1 H0):jB K H1 H C p mv pt lk:=by obtain ⟨dx,a,b,c,g,n1,n2,n3,g1,g2,g3⟩:=h;exact ⟨dx,a,b,c,g,e.none n1,e.none n2,e.none n3,g1.weak e,g2.weak e,g3.weak e⟩
theorem uR.fits (h:uR mv pt lk) (hl:∀x∈l,(∃xs∈mv,x∈xs)\/(∃xs∈pt,x∈xs)\/(∃xs∈lk,x∈xs)\/x=0):Fits l:=by
 obtain ⟨M,V,h0,h1,h2,h3,h4,h5⟩:=h;refine ⟨M,V,h0,ag h1 (av (by decide) (by decide)),ag h2 (av (by decide) (by decide)),λx hx=>?_⟩;rcases hl x hx with ⟨xs,a,b⟩ | ⟨xs,a,b⟩ | ⟨xs,a,b⟩ | rfl
 ·exact h3 xs a x b
 ·exact h4 xs a x b
 ·exact h5 xs a x b
 ·exact Fr.zero
theorem uR.turn (h:uR mv pt lk):uR (cp mv mv.length) lk pt:=by
 obtain ⟨M,V,h0,h1,h2,h3,h4,h5⟩:=h;refine ⟨M,V,h0,h1,h2,λys hy y hy'=>?_,h5,h4⟩;obtain ⟨j,_,rfl⟩:=az.mp hy;obtain ⟨xs,hx,rfl⟩:=az.mp hy';by_cases hj:j < xs.length
 ·rw[aa,af hj];exact h3 xs hx _ (aM hj)
 ·rw[aa,bg (by lia)];exact Fr.zero
theorem fk.turn (h:fk mv pt lk):fk (cp mv mv.length) lk pt:=⟨by rw[cL];exact h.n8,h.o4,h.i4,λxs hx=>by rw[iB xs hx,cL],λxs hx=>by rw[cL];exact h.lw xs hx,λxs hx=>by rw[cL];exact h.pw xs hx⟩
end
def LK:Sp:=λvs H Q _=>∃i:Int,vs=[.int i]/\Q (.bl true) H
def LN (K:FG9):Sp:=λvs H Q _=>∃x n,vs=[x]/\J0 K H x n/\Iy n/\∀H',aI H H'->Q (.bl true) H'
inductive Kk (vs:List V) (H:Hp) (Q:VK) (E9:XK):Prop
 | mk (p:Addr) (xs:List V) (a m:Int):vs=[.ref p,.int a,.int m]->H p=some (.lst xs)->(xs.length:Int)<=m->Q .non H->Kk  vs H Q E9
inductive Ks (K:FG9) (vs:List V) (H:Hp) (Q:VK) (E9:XK):Prop
 | mk (p:Addr) (H0:Hp) (rows:LR9) (w:Nat):vs=[.ref p,.int w]->bB K H0 H p rows->rows.length<=1000->w<=1000->((∀xs∈rows,xs.length=w/\∀x∈xs,Iy (nm x)))->(∀r H',H r=none->aI H H'->bB K H H' r rows->Q (.ref r) H')->Ks K vs H Q E9
def T7 (rows:LR9):Prop:=∀xs∈rows,∀x∈xs,Iy (nm x)
inductive Ko (K:FG9) (C:Addr) (vs:List V) (H:Hp) (Q:VK) (E9:XK):Prop
 | mk (x dx p q r:Addr) (Hb H0 H1 H2:Hp) (mv pt lk:LR9):vs=[.ref x,.ref p,.ref q,.ref r]->Hb x=none->Hb dx=none->dx≠x->H=upd (upd Hb dx (.own x)) x (.ins C dx [])->bB K H0 Hb p mv->bB K H1 Hb q pt->bB K H2 Hb r lk->fk mv pt lk->T7 mv->T7 pt->T7 lk->(∀H',aI Hb H'->jB K Hb H' C x mv pt lk->Q .non H')->Ko K C vs H Q E9
def iH (mv pt:LR9) (st pu:List Rat):List Rat:=List.zipWith (λline col=>cG (line++col) (st++pu)) mv (cp pt mv.length)
def seenQ (lk:LR9) (st:List Rat):List Rat:=lk.map λxs=>cG xs st
inductive Ak (K:FG9) (C:Addr) (vs:List V) (H:Hp) (Q:VK) (E9:XK):Prop
 | mk (x:Addr) (H0:Hp) (mv pt lk:LR9):vs=[.ref x]->jB K H0 H C x mv pt lk->fk mv pt lk->uR mv pt lk->(∀r H',H r=none->aI H H'->jB K H H' C r (cp mv mv.length) lk pt->Q (.ref r) H')->Ak K C vs H Q E9
theorem uR.ok (h:uR mv pt lk):T7 mv/\T7 pt/\T7 lk :=
 ⟨λxs hx x hx'=>(h.fits (l:=xs) λy hy=>.inl ⟨xs,hx,hy⟩).ok hx',λxs hx x hx'=>(h.fits (l:=xs) λy hy=>.inr (.inl ⟨xs,hx,hy⟩)).ok hx',λxs hx x hx'=>(h.fits (l:=xs) λy hy=>.inr (.inr (.inl ⟨xs,hx,hy⟩))).ok hx'⟩
def fZ (K:FG9) (A:Addr->Prop) (H:Hp) (n:Nat) (C:Rat->Prop) (x:V):Prop:=∃q qs,x=V.ref q/\A q/\cz K H q qs/\qs.length=n/\∀y∈qs,C y
section
variable {K:FG9} {A A':Addr->Prop} {H H' H0:Hp} {n:Nat} {C C':Rat->Prop} {x v:V} {q b l p:Addr} {xs zs:List V} {y:Rat} {o:HO}
theorem fZ.same (h:fZ K A H n C x) (e:aI H H'):fZ K A H' n C x:=by obtain ⟨q,qs,a,c,r,z⟩:=h;exact ⟨q,qs,a,c,r.same e,z⟩
theorem fZ.upto (h:fZ K A H n C x) (u:cI b H H') (B:gh H b) (nb:¬A b):fZ K A H' n C x:=by obtain ⟨q,qs,a,c,r,z⟩:=h;exact ⟨q,qs,a,c,r.upto u B (λe=>nb (by rw[<- e];exact c)),z⟩
theorem fZ.other (h:fZ K A H n C x) (hl:H l=some (.lst zs)) (nl:¬A l):fZ K A (upd H l o) n C x:=by obtain ⟨q,qs,a,c,r,z⟩:=h;exact ⟨q,qs,a,c,r.updL hl (λe=>nl (by rw[<- e];exact c)),z⟩
theorem fZ.weak (h:fZ K A H n C x) (w:∀q,A q->A' q) (wc:∀y,C y->C' y):fZ K A' H n C' x:=by obtain ⟨q,qs,a,c,r,l,z⟩:=h;exact ⟨q,qs,a,w q c,r,l,λy hy=>wc y (z y hy)⟩
theorem vv {α β:Type} {F:α->β->Prop} {a:α} {b:β} (h:F a b):∀{l1:List α} {l2:List β} (j:Nat),Paired F l1 l2->Paired F (l1.set j a) (l2.set j b)
 | _,_,_,.nil=>.nil
 | _,_,0,.cons _ t=>.cons h t
 | _,_,j+1,.cons r t=>.cons r (vv h j t)
theorem fZ.put (h:fZ K A H n C x) (hq:H q=some (.lst zs)) (hv:b6 K H y v) (hc:C y) (j:Nat):fZ K A (upd H q (.lst (zs.set j v))) n C x:=by
 obtain ⟨q1,qs,rfl,a,⟨zs1,g1,pr⟩,l1,c1⟩:=h;by_cases e:q1=q
 ·subst e;rw[hq] at g1;cases g1;refine ⟨q1,qs.set j y,rfl,a,⟨_,aJ,vv (hv.updL hq) j (Paired.imp' (λ_ _ z=>z.updL hq) pr)⟩,by rw[dM];exact l1,λz hz=>?_⟩;rcases cy hz with hz | rfl
  ·exact c1 z hz
  ·exact hc
 ·exact ⟨q1,qs,rfl,a,⟨zs1,by rw[bD e];exact g1,Paired.imp' (λ_ _ z=>z.updL hq) pr⟩,l1,c1⟩
theorem fZ.at (h:fZ K A H n C x):∃q zs qs,x=V.ref q/\A q/\H q=some (.lst zs)/\zs.length=n/\Paired (b6 K H) qs zs/\qs.length=n/\∀y∈qs,C y:=by obtain ⟨q,qs,a,c,⟨zs,g,pr⟩,l,z⟩:=h;exact ⟨q,zs,qs,a,c,g,by rw[<- pr.length];exact l,pr,l,z⟩
end
theorem sX {i:Int} (h:i.natAbs<=W) (hW:1<=W):Dr W (i:Rat):=⟨h,hW⟩
def Vp (K:FG9) (A:Addr->Prop) (H:Hp) (n:Nat) (C:Rat->Prop) (p:Addr) (m:Nat):Prop:=∃us,H p=some (.lst us)/\us.length=m/\¬A p/\∀x∈us,fZ K A H n C x
structure Iz (A:Addr->Prop) (m p l b q0:Addr):Prop where
 am:¬A m
 ap:¬A p
 al:¬A l
 ab:¬A b
 aq:¬A q0
 mb:m≠b
 pb:p≠b
 lb:l≠b
 mp:m≠p
 ml:m≠l
 mq:m≠q0
theorem K6 {M:Nat} {z:Int} (h:z.natAbs<=2):Fr 1 2 (z:Rat):=Fr.int h
theorem Fc {z:Int} (hz:z.natAbs<=2) (ha:Fr M W a) (hc:Fr M W c):Fr M (3*W) (a+(z:Rat)*c):=by
 have h:=(K6 (M:=M) hz).mul hc;rw[qQ] at h;exact (ha.add h).mono (by lia)
theorem El {z:Int} (h:z.natAbs<=1000):kN (z:Rat):=JK (M:=1) (V:=1000) (by decide) (cA) (ag (show 1000<=2^10 by decide) (av (by decide) (by decide))) (Fr.int h)
theorem Ai {z:Int} (hz:z.natAbs<=2) (hc:Fr M W c) (h0:0 < M) (h1:M<=2^800) (hW:W<=2^140):kN ((z:Rat)*c):=by
 have h:=(K6 (M:=M) hz).mul hc;rw[qQ] at h;refine JK h0 (ag h1 (av (by decide) (by decide))) (ag (aD 2 hW) ?_) h;rw[show 2*2^140=2^141 by rw[d5,cg]];exact av (by decide) (by decide)
def jg (A:Addr->Prop) (b m:Addr) (H H':Hp):Prop:=∀c u,H c=some u->c≠b->¬A c->c≠m->H' c=some u
theorem jg.same (h:jg A b m H H1) (s:aI H1 H2):jg A b m H H2:=λc u e n1 n2 n3=>s _ _ (h c u e n1 n2 n3)
theorem jg.upto (h:jg A b m H H1) (s:cI b H1 H2):jg A b m H H2:=λc u e n1 n2 n3=>s.1 _ _ (h c u e n1 n2 n3) n1
theorem jg.upd (h:jg A b m H H1) (hq:A q\/q=m):jg A b m H (L2.upd H1 q o):=λc u e n1 n2 n3=>by
 rw[bD]
 ·exact h c u e n1 n2 n3
 ·rintro rfl;rcases hq with hq | hq
  ·exact n2 hq
  ·exact n3 hq
theorem jg.new (h:jg A b m H H1) (hA:∀q,H q=none->A q) (B:gh H1 b) (hm:H1 m≠none) (hr:H1 r=none):A r:=by
 by_cases z:A r
 ·exact z
 ·cases e:H r with
  | none=>exact hA r e
  | some u =>
   have:=h r u e (λy=>B.at (by rw[<- y];exact hr)) z (λy=>hm (by rw[<- y];exact hr));rw[hr] at this;cases this
structure Lz (K:FG9) (A:Addr->Prop) (n:Nat) (C:Rat->Prop) (r p b q0:Addr) (us:List V) (H0 H:Hp):Prop where
 gr:H r=some (.lst us)
 ru:∀x∈us,fZ K A H n C x
 rp:fZ K A H n C (.ref p)
 bag:gh H b
 inn:Inner H b q0
 up:cI b H0 H
section
variable {K:FG9} {A:Addr->Prop} {n:Nat} {C:Rat->Prop} {r p b q0:Addr} {us:List V} {H0 H H':Hp} {y:Rat} {v:V}
theorem Lz.same (h:Lz K A n C r p b q0 us H0 H) (e:aI H H'):Lz K A n C r p b q0 us H0 H':=⟨e _ _ h.gr,λx hx=>(h.ru x hx).same e,h.rp.same e,h.bag.same e,(e.upto (p:=b)).2 _ h.inn,h.up.same e⟩
theorem Lz.upto (h:Lz K A n C r p b q0 us H0 H) (u:cI b H H') (B:gh H' b) (nb:¬A b) (rb:r≠b):Lz K A n C r p b q0 us H0 H':=⟨u.other rb h.gr,λx hx=>(h.ru x hx).upto u h.bag nb,h.rp.upto u h.bag nb,B,u.2 _ h.inn,h.up.trans u⟩
theorem Lz.put (h:Lz K A n C r p b q0 us H0 H) (ap:A p) (nr:¬A r) (nb:¬A b) (nq:¬A q0) (hp:H0 p=none) (hv:b6 K H y v) (hc:C y) (j:Nat):∃zs,H p=some (.lst zs)/\zs.length=n/\Lz K A n C r p b q0 us H0 (upd H p (.lst (zs.set j v))):=by
 obtain ⟨q,zs,qs,e,a,g,l,_⟩:=h.rp.at;cases e;have ne:∀{z},¬A z->z≠p:=λh e=>h (by rw[e];exact ap)
 exact ⟨zs,g,l,by rw[bD (ne nr)];exact h.gr,λx hx=>(h.ru x hx).put g hv hc j,h.rp.put g hv hc j,h.bag.upd h.inn (ne nb).symm (ne nq).symm,h.inn.upd (ne nb).symm,h.up.after hp⟩
end
theorem vo {K:FG9} (h:∀x∈us,fZ K A H n C x):∃rows:LR9,Paired (λqs x=>∃q,x=V.ref q/\A q/\cz K H q qs) rows us/\rows.length=us.length/\∀qs∈rows,qs.length=n/\∀y∈qs,C y:=by
 induction us with
 | nil=>exact ⟨[],.nil,rfl,λ_ z=>nomatch z⟩
 | cons u us ih =>
  obtain ⟨rows,pr,l,hr⟩:=ih λx hx=>h x (.tail _ hx)
  obtain ⟨q,qs,e,a,r,l1,c⟩:=h u (.head _);refine ⟨qs :: rows,.cons ⟨q,e,a,r⟩ pr,by simp [l],λzs hz=>?_⟩;rcases aL.mp hz with rfl | hz
  ·exact ⟨l1,c⟩
  ·exact hr zs hz
theorem Jm {K:FG9} {rows:LR9} (pr:Paired (λqs x=>∃q,x=V.ref q/\A q/\cz K H q qs) rows us) (h:∀qs∈rows,qs.length=n/\∀y∈qs,C y):∀x∈us,fZ K A H n C x:=λx hx=>by
 obtain ⟨qs,hq,q,e,a,r⟩:=dq pr hx;exact ⟨q,qs,e,a,r,(h qs hq).1,(h qs hq).2⟩
theorem yf {n:Nat}:∀{rows:LR9},(∀xs∈rows,xs.length=n)->rows.flatten.length=rows.length*n
 | [],_=>by simp
 | xs :: rows,h=>by
  rw[dY,aw,h xs (.head _),yf λys hy=>h ys (.tail _ hy),bQ,cZ,tU]
theorem PJ {rows:LR9} (h:∀qs∈rows,qs.length=n/\∀y∈qs,Dr (2^c) y):∃M:Nat,0 < M/\M<=2^(c*(rows.length*n))/\∀qs∈rows,∀y∈qs,Fr M (2^c) y:=by
 have fl:rows.flatten.length=rows.length*n:=yf λys hy=>(h ys hy).1
 have hm:∀a∈rows.flatten.map (·.den),0 < a/\a<=2^c:=λa ha=>by
  obtain ⟨y,hy,rfl⟩:=az.mp ha;obtain ⟨qs,hq,hy⟩:=gY.mp hy;exact ⟨y.den_pos,((h qs hq).2 y hy).2⟩
 refine ⟨vV (rows.flatten.map (·.den)),xS λa ha=>(hm a ha).1,?_,λqs hq y hy=>?_⟩
 ·have:=AN (k:=c) (l:=rows.flatten.map (·.den)) λa ha=>(hm a ha).2
  rwa [aj,fl] at this
 ·exact (Fr.own y ((h qs hq).2 y hy).1).dvd (xT (az.mpr ⟨y,gY.mpr ⟨qs,hq,hy⟩,rfl⟩))
theorem ks {K:FG9} (h:Vp K A H n C p m) (w:∀q,A q->H0 q=none):∃rows,bB K H0 H p rows/\rows.length=m/\∀qs∈rows,qs.length=n/\∀y∈qs,C y:=by
 obtain ⟨us,g,l,a,r⟩:=h;obtain ⟨rows,pr,lr,hr⟩:=vo r;refine ⟨rows,⟨us,g,Paired.imp' (λ_ _ ⟨q,e,aq,rq⟩=>⟨q,e,w q aq,rq⟩) pr,λhm=>?_⟩,by rw[lr,l],hr⟩;obtain ⟨q,_,e,aq,_⟩:=r _ hm;cases e;exact a aq
theorem jg.trans (h:jg A b m H H1) (h':jg A b m H1 H2):jg A b m H H2:=λc u e n1 n2 n3=>h' c u (h c u e n1 n2 n3) n1 n2 n3
theorem Jn {K:FG9} {rows:LR9} (pr:Paired (cY K H0 H) rows us) (h:∀qs∈rows,qs.length=n/\∀y∈qs,C y) (w:∀q,V.ref q∈us->H0 q=none->H q≠none->A q):∀x∈us,fZ K A H n C x:=λx hx=>by
 obtain ⟨qs,hq,q,e,a,r⟩:=dq pr hx;subst e;exact ⟨q,qs,rfl,w q hx a (by obtain ⟨_,g,_⟩:=r;rw[g];simp),r,(h qs hq).1,(h qs hq).2⟩
def LL:Sp:=λvs H Q _=>∃b,vs=[.ref b]/\gh H b/\∀r (n i o w:Nat) H',H' r=some (.tup [.int n,.int i,.int o,.int w])->n<=5->i<=4->o<=4->(w=4\/w=9\/(w=1000000/\n<=2))->(n=5->i<=2/\o<=2)->gh H' b->cI b H H'->Q (.ref r) H'
def fW (K:FG9) (H0 H:Hp) (r:Addr) (mv pt lk:LR9):Prop:=∃m p l,H r=some (.tup [.ref m,.ref p,.ref l])/\H0 m=none/\H0 p=none/\H0 l=none/\bB K H0 H m mv/\bB K H0 H p pt/\bB K H0 H l lk
section
variable {K:FG9} {H H' H0 H1:Hp} {r b:Addr} {mv pt lk:LR9}
theorem fW.same (h:fW K H0 H r mv pt lk) (e:aI H H'):fW K H0 H' r mv pt lk:=by obtain ⟨m,p,l,g,n1,n2,n3,g1,g2,g3⟩:=h;exact ⟨m,p,l,e _ _ g,n1,n2,n3,g1.same e,g2.same e,g3.same e⟩
theorem fW.upto (h:fW K H0 H r mv pt lk) (u:cI b H H') (B:gh H b) (nb:H0 b≠none):fW K H0 H' r mv pt lk:=by
 obtain ⟨m,p,l,g,n1,n2,n3,g1,g2,g3⟩:=h;exact ⟨m,p,l,u.tup B g,n1,n2,n3,g1.upto u B (λz=>nb (by rw[<- z];exact n1)) nb,g2.upto u B (λz=>nb (by rw[<- z];exact n2)) nb,g3.upto u B (λz=>nb (by rw[<- z];exact n3)) nb⟩
theorem fW.weak (h:fW K H0 H r mv pt lk) (e:∀q,H0 q=none->H1 q=none):fW K H1 H r mv pt lk:=by
 obtain ⟨m,p,l,g,n1,n2,n3,⟨x1,y1,z1,w1⟩,⟨x2,y2,z2,w2⟩,⟨x3,y3,z3,w3⟩⟩:=h;exact ⟨m,p,l,g,e _ n1,e _ n2,e _ n3,⟨x1,y1,Paired.imp' (λ_ _ ⟨q,a,b,c⟩=>⟨q,a,e _ b,c⟩) z1,w1⟩,⟨x2,y2,Paired.imp' (λ_ _ ⟨q,a,b,c⟩=>⟨q,a,e _ b,c⟩) z2,w2⟩,⟨x3,y3,Paired.imp' (λ_ _ ⟨q,a,b,c⟩=>⟨q,a,e _ b,c⟩) z3,w3⟩⟩
end
inductive Am (K:FG9) (C:Addr) (vs:List V) (H:Hp) (Q:VK) (E9:XK):Prop
 | mk (r:Addr) (H0:Hp) (mv pt lk:LR9):vs=[.ref r]->fW K H0 H r mv pt lk->fk mv pt lk->uR mv pt lk->(∀x H',H x=none->aI H H'->jB K H H' C x mv pt lk->Q (.ref x) H')->Am K C vs H Q E9
def nextK (mv pt:LR9) (st pu:List Rat) (k:Nat):List Rat:=List.zipWith (λline col=>cG (line++col.take k) (st++pu.take k)) mv (cp pt mv.length)
theorem jE {st pu:List Rat}:(nextK mv pt st pu k).length=mv.length:=by unfold nextK;rw[bo,cL];lia
theorem tJ {st pu:List Rat} (h1:pt.length<=k) (h2:pu.length<=k):nextK mv pt st pu k=iH mv pt st pu:=by
 unfold nextK iH;apply nJ;intro i;rw[bu,bu];cases e1:mv[i]? with
 | none=>rfl
 | some line =>
  cases e2:(cp pt mv.length)[i]? with
  | none=>rfl
  | some col =>
   have:=iB col (ao e2);show some _=some _
   rw[aE (by lia),aE h2]
theorem Kc (h:i < w):(cp rows w)[i]?=some (rows.map λxs=>xs.getD i 0):=by
 unfold cp;rw[aB,cM h];rfl
theorem Jz {st pu:List Rat}:nextK mv pt st pu 0=mv.map λxs=>cG xs st:=by
 unfold nextK;apply nJ;intro i;rw[bu,aB];by_cases hi:i < mv.length
 ·rw[Kc hi,af hi];simp
 ·rw[bg (by lia)];rfl
theorem A9 {st pu:List Rat} (hi:i < mv.length):(nextK mv pt st pu k).getD i 0=cG (mv[i]++(pt.map λxs=>xs.getD i 0).take k) (st++pu.take k):=by
 rw[aa];unfold nextK;rw[bu,af hi,Kc hi];rfl
theorem sZ (h:as.length=xs.length):cG (as++bs) (xs++ys)=cG as xs+cG bs ys:=by
 unfold cG;rw[FH h,List.sum_append]
theorem JA {st pu:List Rat} (hm:∀xs∈mv,xs.length=st.length) (h1:k < pt.length) (h2:k < pu.length) (hw:(pt[k]).length=mv.length) :
  List.zipWith (λx y=>x+y) (nextK mv pt st pu k) ((pt[k]).map λy=>pu[k]*y)=nextK mv pt st pu (k+1):=by
 have l1:((pt[k]).map λy=>pu[k]*y).length=mv.length:=by rw[aj,hw]
 rw[CY (by rw[l1,jE])];apply nJ;intro i;rw[aB,jE];by_cases hi:i < mv.length
 ·have e0:(nextK mv pt st pu (k+1))[i]?=some ((nextK mv pt st pu (k+1)).getD i 0):=by
   rw[aa,af (by rw[jE];exact hi)];rfl
  rw[cM hi,e0,A9 hi];have ll:=hm mv[i] (aM hi);have ec:(pt.map λxs=>xs.getD i 0)[k]?=some ((pt[k]).getD i 0):=by rw[aB,af h1];rfl
  have ep:pu[k]?=some pu[k]:=af h2
  have e3:((pt[k]).map λy=>pu[k]*y).getD i 0=pu[k]*(pt[k]).getD i 0:=by
   rw[getD_map (by rw[hw];exact hi),aa,af (by rw[hw];exact hi)];rfl
  show some ((nextK mv pt st pu k).getD i 0+((pt[k]).map λy=>pu[k]*y).getD i 0)=some _
  rw[A9 hi,e3,take_snoc ec,take_snoc ep,sZ ll,sZ ll,sZ (by rw[cP,cP,aj];lia)];have:cG [(pt[k]).getD i 0] [pu[k]]=(pt[k]).getD i 0*pu[k]:=by simp [cG,nD]
  rw[this];congr 1;grind
 ·rw[bg (by simpa using hi),bg (by rw[jE];lia)];rfl
theorem jB.weakN {K:FG9} (h:jB K H0 H C p mv pt lk) (e:∀q,H0 q=none->H1 q=none):jB K H1 H C p mv pt lk:=by
 obtain ⟨dx,a,b,c,g,n1,n2,n3,⟨x1,y1,z1,w1⟩,⟨x2,y2,z2,w2⟩,⟨x3,y3,z3,w3⟩⟩:=h;exact ⟨dx,a,b,c,g,e _ n1,e _ n2,e _ n3,⟨x1,y1,Paired.imp' (λ_ _ ⟨q,a,b,c⟩=>⟨q,a,e _ b,c⟩) z1,w1⟩,⟨x2,y2,Paired.imp' (λ_ _ ⟨q,a,b,c⟩=>⟨q,a,e _ b,c⟩) z2,w2⟩,⟨x3,y3,Paired.imp' (λ_ _ ⟨q,a,b,c⟩=>⟨q,a,e _ b,c⟩) z3,w3⟩⟩
theorem Mh {st pu:List Rat}:(iH mv pt st pu).length=mv.length:=by unfold iH;rw[bo,cL];lia
def lA (k j:Nat) (l:List Rat):Prop:=∃M V:Nat,0 < M/\M<=2^k/\V<=2^j/\∀x∈l,Fr M V x
theorem QE {M V:Nat} (h0:0 < M) (h1:M<=2^2000) (h2:V<=2^1950) (h:Fr M V x):kN x:=by
 obtain ⟨a,b⟩:=h.sz h0 h1 h2;exact ⟨a.mono (by decide),b.mono (by decide)⟩
section
variable {k j k' j':Nat} {l xs ys:List Rat} {x y:Rat}
theorem lA.szn (h:lA k j l) (hx:x∈l) (hk:k+j<=197500:=by decide):kN x:=by
 obtain ⟨M,V,h0,h1,h2,h3⟩:=h;obtain ⟨a,b⟩:=(h3 x hx).sz h0 h1 h2;exact ⟨a.mono (by lia),b.mono (by lia)⟩
theorem lA.rowM (h:lA k j l) (hk:k+j<=210000:=by decide):∃M,Iw M (l.map nm):=by
 obtain ⟨M,V,h0,h1,h2,h3⟩:=h;refine ⟨M,by lia,?_,λn hn=>?_⟩
 ·show ((M:Nat):Int).natAbs < 2^220000
  rw[cX];exact bp h1 (df (by decide) (by lia))
 ·obtain ⟨x,hx,rfl⟩:=az.mp hn;obtain ⟨a,_⟩:=(h3 x hx).sz h0 h1 h2;exact ⟨jk x,(h3 x hx).den,a.mono (by lia)⟩
theorem lA.one (h:lA k j l) (hx:x∈l):lA k j [x]:=by
 obtain ⟨M,V,h0,h1,h2,h3⟩:=h;exact ⟨M,V,h0,h1,h2,λy hy=>by rw[bW.mp hy];exact h3 x hx⟩
theorem OK (h:lA k j xs) (h':lA k' j' ys) (hl:xs.length<=1000) (i:Nat) (hk:(k+k')+(j+j')<=196500:=by decide):kN (cG (xs.take i) (ys.take i)):=by
 obtain ⟨M,V,h0,h1,h2,h3⟩:=h;obtain ⟨N,W,k0,k1,k2,k3⟩:=h'
 have e:1000*(V*W)<=2^(10+(j+j')):=by
  rw[aF 2 10];exact ax (by decide) (ag (ax h2 k2) (by rw[<- aF];exact au _))
 obtain ⟨a,b⟩:=((Fr.dot (λx hx=>h3 x (cO hx)) (λy hy=>k3 y (cO hy))).mono (aG _ (show (xs.take i).length<=1000 by rw[cP];lia))).sz (a8 h0 k0) (ag (ax h1 k1) (by rw[<- aF];exact au _)) e;exact ⟨a.mono (by lia),b.mono (by lia)⟩
theorem Oa (hx:lA k j [x]) (hy:lA k' j' [y]) (hk:(k+k')+(j+j')<=196500:=by decide):kN (x*y):=by
 obtain ⟨M,V,h0,h1,h2,h3⟩:=hx;obtain ⟨N,W,k0,k1,k2,k3⟩:=hy;obtain ⟨a,b⟩:=((h3 x (.head _)).mul (k3 y (.head _))).sz (a8 h0 k0) (ag (ax h1 k1) (by rw[<- aF];exact au _)) (ag (ax h2 k2) (by rw[<- aF];exact au _));exact ⟨a.mono (by lia),b.mono (by lia)⟩
def FC (xs ys:List Rat):Prop:=∃k j k' j':Nat,lA k j xs/\lA k' j' ys/\(k+k')+(j+j')<=196500
theorem FC.sys (h:lA 400 120 xs) (h':lA 75000 90000 ys):FC xs ys:=⟨_,_,_,_,h,h',by decide⟩
end
def IM (mv pt lk:LR9):Prop:=∃M V:Nat,0 < M/\M<=2^400/\V<=2^120/\GF M V mv/\GF M V pt/\GF M V lk
section
variable {mv pt lk:LR9}
theorem IM.fits (h:IM mv pt lk) (hl:∀x∈l,(∃xs∈mv,x∈xs)\/(∃xs∈pt,x∈xs)\/(∃xs∈lk,x∈xs)\/x=0):lA 400 120 l:=by
 obtain ⟨M,V,h0,h1,h2,g1,g2,g3⟩:=h;refine ⟨M,V,h0,h1,h2,λx hx=>?_⟩;rcases hl x hx with ⟨xs,a,b⟩ | ⟨xs,a,b⟩ | ⟨xs,a,b⟩ | rfl
 ·exact g1 xs a x b
 ·exact g2 xs a x b
 ·exact g3 xs a x b
 ·exact Fr.zero
theorem IM.sf (h:IM mv pt lk):uR mv pt lk:=by obtain ⟨M,V,a,b,c,d⟩:=h;exact ⟨M,V,a,ag b (av (by decide) (by decide)),ag c (av (by decide) (by decide)),d⟩
end
inductive Ep (K:FG9) (vs:List V) (H:Hp) (Q:VK) (E9:XK):Prop
 | mk (p q:Addr) (xs ys:List Rat):vs=[.ref p,.ref q]->cz K H p xs->cz K H q ys->ys.length=xs.length->xs.length<=1000->FC xs ys->(∀r H',aI H H'->b6 K H' (cG xs ys) (.ref r)->Q (.ref r) H')->Ep K vs H Q E9
inductive Eo (K:FG9) (vs:List V) (H:Hp) (Q:VK) (E9:XK):Prop
 | mk (p q:Addr) (H0:Hp) (rows:LR9) (ys:List Rat):vs=[.ref p,.ref q]->bB K H0 H p rows->cz K H q ys->rows.length<=1000->ys.length<=1000->((∀xs∈rows,xs.length=ys.length/\FC xs ys))->(∀r H',H r=none->aI H H'->cz K H' r (rows.map λxs=>cG xs ys)->Q (.ref r) H')->Eo K vs H Q E9
inductive Di (K:FG9) (C:Addr) (vs:List V) (H:Hp) (Q:VK) (E9:XK):Prop
 | mk (x p q:Addr) (H0:Hp) (mv pt lk:LR9) (st pu:List Rat):vs=[.ref x,.ref p,.ref q]->jB K H0 H C x mv pt lk->fk mv pt lk->IM mv pt lk->cz K H p st->cz K H q pu->st.length=mv.length->pu.length=pt.length->lA 75000 90000 (st++pu)->(∀r H',H r=none->aI H H'->cz K H' r (iH mv pt st pu)->Q (.ref r) H')->Di K C vs H Q E9
inductive FX (K:FG9) (C:Addr) (vs:List V) (H:Hp) (Q:VK) (E9:XK):Prop
 | mk (x p:Addr) (H0:Hp) (mv pt lk:LR9) (st:List Rat):vs=[.ref x,.ref p]->jB K H0 H C x mv pt lk->fk mv pt lk->IM mv pt lk->cz K H p st->st.length=mv.length->lA 75000 90000 st->(∀r H',H r=none->aI H H'->cz K H' r (L2.seenQ lk st)->Q (.ref r) H')->FX K C vs H Q E9
def tV (mv pt:LR9) (st:List Rat) (pus:LR9) (k:Nat):List Rat:=(pus.take k).foldl (iH mv pt) st
def mZ (mv pt:LR9) (st:List Rat) (pus:LR9):LR9:=(List.range (pus.length+1)).map (tV mv pt st pus)
section
variable {mv pt lk pus:LR9} {st:List Rat} {k:Nat}
theorem rf (h:pus[k]?=some pu):tV mv pt st pus (k+1)=iH mv pt (tV mv pt st pus k) pu:=by
 unfold tV;rw[take_snoc h,List.foldl_append];rfl
theorem mM (h:st.length=mv.length):∀{k:Nat},k<=pus.length->(tV mv pt st pus k).length=mv.length
 | 0,_=>h
 | k+1,hk=>by rw[rf (af (show k < pus.length by lia)),Mh]
theorem qh:(mZ mv pt st pus).length=pus.length+1:=by unfold mZ;rw[aj,bR]
theorem oP (h:k<=pus.length):(mZ mv pt st pus)[k]?=some (tV mv pt st pus k):=by
 unfold mZ;rw[aB,cM (by lia)];rfl
def CW (mv pt:LR9) (st:List Rat) (pus:LR9):Prop:=∀k,k<=pus.length->∃N W:Nat,0 < N/\N<=2^75000/\W<=2^90000/\(∀x∈tV mv pt st pus k,Fr N W x)/\∀xs∈pus,∀x∈xs,Fr N W x
theorem CW.both (h:CW mv pt st pus) (hk:k<=pus.length) (hp:pu∈pus):lA 75000 90000 (tV mv pt st pus k++pu):=by
 obtain ⟨N,W,a,b,c,d,e⟩:=h k hk;exact ⟨N,W,a,b,c,λx hx=>(aH.mp hx).elim (d x) (e pu hp x)⟩
theorem CW.state (h:CW mv pt st pus) (hk:k<=pus.length):lA 75000 90000 (tV mv pt st pus k):=by
 obtain ⟨N,W,a,b,c,d,e⟩:=h k hk;exact ⟨N,W,a,b,c,d⟩
theorem Ej (h:GF M W rows):GF M W (cp rows w):=λys hy y hy'=>by
 obtain ⟨j,_,rfl⟩:=az.mp hy;obtain ⟨xs,hx,rfl⟩:=az.mp hy';rw[aa];cases e:xs[j]? with
 | none=>exact Fr.zero
 | some z=>exact h xs hx z (ao e)
end
def yo (K:FG9) (H:Hp) (l:Addr) (H':Hp) (xs:List Rat) (x:V):Prop:=∃q,x=.ref q/\H q=none/\q≠l/\cz K H' q xs
section
variable {K:FG9} {H H' H2:Hp} {l:Addr} {xs:List Rat} {x:V}
theorem yo.same (h:yo K H l H' xs x) (e:aI H' H2):yo K H l H2 xs x:=by obtain ⟨q,a,b,c,d⟩:=h;exact ⟨q,a,b,c,d.same e⟩
theorem yo.upd {ys:List V} {o:HO} (h:yo K H l H' xs x) (hl:H' l=some (.lst ys)):yo K H l (upd H' l o) xs x:=by obtain ⟨q,a,b,c,d⟩:=h;exact ⟨q,a,b,c,d.updL hl c⟩
theorem yo.rowF (h:yo K H l H' xs x):cY K H H' xs x:=by obtain ⟨q,a,b,_,d⟩:=h;exact ⟨q,a,b,d⟩
theorem LR (e:aI H H') (n:H l=none):aI H (upd H' l o):=λb u h=>by
 rw[bD (λz=>by rw[z,n] at h;cases h)];exact e b u h
theorem AK:∀{rows:LR9} {ys:List V},Paired (yo K H l H') rows ys->V.ref l∉ys
 | _,_,.nil=>by simp
 | _,_,.cons ⟨q,a,_,c,_⟩ r=>by
  intro hm;rcases aL.mp hm with e | hm
  ·rw[a] at e;cases e;exact c rfl
  ·exact AK r hm
end
inductive As (K:FG9) (C:Addr) (vs:List V) (H:Hp) (Q:VK) (E9:XK):Prop
 | mk (x s p:Addr) (H0 H1:Hp) (mv pt lk pus:LR9) (st:List Rat):vs=[.ref x,.ref s,.ref p]->jB K H0 H C x mv pt lk->fk mv pt lk->IM mv pt lk->cz K H s st->st.length=mv.length->bB K H1 H p pus->pus.length<=100->(∀xs∈pus,xs.length=pt.length)->CW mv pt st pus->(∀r H',H r=none->aI H H'->bB K H H' r (mZ mv pt st pus)->Q (.ref r) H')->As K C vs H Q E9
theorem tP {l:List Rat} (h:∀x∈l,Dr (2^c) x) (hc:c<=20):∃B:Nat,0 < B/\B<=2^(c*l.length+2)/\∀x∈l,Fr B (2^22) x:=by
 obtain ⟨M,h0,h1,h2⟩:=QC (c:=c) (n:=l.length) (i:=0) (rows:=[]) Tu rfl h hc;refine ⟨M,h0,?_,h2 l (by simp)⟩;rw[Nat.zero_add,qQ] at h1;exact h1
theorem HU {i:Nat}:∀{pus:LR9},(∀xs∈pus,xs.length=i)->pus.flatten.length=pus.length*i
 | [],_=>by simp
 | x :: r,h=>by
  rw[dY,aw,h x (.head _),HU (λxs hx=>h xs (.tail _ hx)),bQ,cZ]
  lia
theorem Uu {i:Int} (h:i=0\/i=1):Fr 1 1 (i:Rat):=Fr.int (by rcases h with rfl | rfl <;> decide)
end L2
namespace L2
abbrev jf:=Nat->Rat
def Cr (F:List jf->Rat) (r:Nat):List jf->List jf->Rat->Rat
 | _,[],_=>0
 | pre,v :: post,s=>s*v r*F (pre++post)+Cr F r (pre++[v]) post (-s)
def ke:List Nat->List jf->Rat
 | [],[]=>1
 | [],_ :: _=>0
 | r :: rs,vs=>Cr (λws=>ke rs ws) r [] vs 1
theorem Ff:ke [] (a++x :: b)=0:=by
 cases a <;> rfl
theorem E5 {F:List jf->Rat} {r:Nat} {f g h:jf} {x y:Rat} (hF:∀a b,F (a++h :: b)=x*F (a++f :: b)+y*F (a++g :: b)):∀(b p q:List jf) (s:Rat),Cr F r (p++h :: q) b s=x*Cr F r (p++f :: q) b s+y*Cr F r (p++g :: q) b s
 | [],p,q,s=>by simp only[Cr,js,nD]
 | v :: b,p,q,s=>by
  have i1:=hF p (q++b);have i2:=E5 (r:=r) hF b p (q++[v]) (-s);simp only[Cr,cJ,fv] at i1 i2 ⊢;rw[i1,i2];grind
theorem KR {F:List jf->Rat} {r:Nat} {f g h:jf} {x y:Rat} (hF:∀a b,F (a++h :: b)=x*F (a++f :: b)+y*F (a++g :: b)) (hr:h r=x*f r+y*g r):∀(a pre b:List jf) (s:Rat),Cr F r pre (a++h :: b) s=x*Cr F r pre (a++f :: b) s+y*Cr F r pre (a++g :: b) s
 | [],pre,b,s=>by
  have i2:=E5 (r:=r) hF b pre [] (-s);simp only[Cr,c6] at i2 ⊢;rw[i2,hr];grind
 | v :: a,pre,b,s=>by
  have i1:=hF (pre++a) b;have i2:=KR hF hr a (pre++[v]) b (-s);simp only[Cr,cJ,fv] at i1 i2 ⊢;rw[i1,i2];grind
theorem sW {f g h:jf} {x y:Rat}:∀{rs:List Nat},(∀r∈rs,h r=x*f r+y*g r)->∀a b,ke rs (a++h :: b)=x*ke rs (a++f :: b)+y*ke rs (a++g :: b)
 | [],_,a,b=>by rw[Ff,Ff,Ff];grind
 | r :: rs,hr,a,b=>KR (λa b=>sW (λr' h'=>hr r' (.tail _ h')) a b) (hr r (.head _)) a [] b 1
theorem OI (hr:∀r∈rs,h r=f r) (a b:List jf):ke rs (a++h :: b)=ke rs (a++f :: b):=by
 rw[sW (f:=f) (g:=f) (x:=1) (y:=0) (λr h'=>by rw[hr r h'];grind) a b];grind
theorem K9 (hr:∀r∈rs,h r=0) (a b:List jf):ke rs (a++h :: b)=0:=by
 rw[sW (f:=h) (g:=h) (x:=0) (y:=0) (λr h'=>by rw[hr r h'];grind) a b];grind
theorem KS {F:List jf->Rat} {r:Nat} {x:jf} (hF:∀a b,F (a++x :: x :: b)=0):∀(b p q:List jf) (s:Rat),Cr F r (p++x :: x :: q) b s=0
 | [],p,q,s=>rfl
 | v :: b,p,q,s=>by
  have i1:=hF p (q++b);have i2:=KS (r:=r) hF b p (q++[v]) (-s);simp only[Cr,cJ,fv] at i1 i2 ⊢;rw[i1,i2];grind
theorem KU {F:List jf->Rat} {r:Nat} {x:jf} (hF:∀a b,F (a++x :: x :: b)=0):∀(a pre b:List jf) (s:Rat),Cr F r pre (a++x :: x :: b) s=0
 | [],pre,b,s=>by
  have i2:=KS (r:=r) hF b pre [] (- -s);simp only[Cr,c6,cJ,fv] at i2 ⊢;rw[i2];grind
 | v :: a,pre,b,s=>by
  have i1:=hF (pre++a) b;have i2:=KU (r:=r) hF a (pre++[v]) b (-s);simp only[Cr,cJ,fv] at i1 i2 ⊢;rw[i1,i2];grind
theorem BF {x:jf}:∀{rs:List Nat} (a b:List jf),ke rs (a++x :: x :: b)=0
 | [],a,b=>Ff
 | r :: rs,a,b=>KU (λa b=>BF a b) a [] b 1
theorem QJ (a b:List jf):ke rs (a++x :: y :: b)=- ke rs (a++y :: x :: b):=by
 have hr:∀r∈rs,(λr=>1*x r+1*y r) r=1*x r+1*y r:=λ_ _=>rfl
 have h0:=BF (x:=λr=>1*x r+1*y r) (rs:=rs) a b;have h1:=sW hr a ((λr=>1*x r+1*y r) :: b);have h2:=sW hr (a++[x]) b;have h3:=sW hr (a++[y]) b;have h4:=BF (x:=x) (rs:=rs) a b;have h5:=BF (x:=y) (rs:=rs) a b;simp only[cJ,fv,c6] at h0 h1 h2 h3 h4 h5;rw[h1,h2,h3,h4,h5] at h0;grind
theorem Fg {x:jf} {rs:List Nat}:∀(b a c:List jf),ke rs (a++x :: (b++x :: c))=0
 | [],a,c=>BF a c
 | y :: b,a,c=>by
  have:=Fg (x:=x) (rs:=rs) b (a++[y]) c;simp only[cJ,fv,c6] at this;rw[fv,QJ,this];rfl
def bP:Nat->(Nat->Rat)->Rat
 | 0,_=>0
 | k+1,f=>bP k f+f k
theorem aZ {f g:Nat->Rat}:∀{k:Nat},(∀j,j < k->f j=g j)->bP k f=bP k g
 | 0,_=>rfl
 | k+1,h=>by
  show bP k f+f k=bP k g+g k
  rw[aZ λj hj=>h j (by lia),h k (by lia)]
theorem qZ {f g:Nat->Rat}:∀{k:Nat},bP k (λj=>f j+g j)=bP k f+bP k g
 | 0=>by show (0:Rat)=0+0;grind
 | k+1=>by
  show bP k (λj=>f j+g j)+_=(bP k f+f k)+(bP k g+g k)
  rw[qZ];grind
theorem c9 {f:Nat->Rat} {c:Rat}:∀{k:Nat},bP k (λj=>c*f j)=c*bP k f
 | 0=>by show (0:Rat)=c*0;grind
 | k+1=>by
  show bP k (λj=>c*f j)+_=c*(bP k f+f k)
  rw[c9];grind
theorem dj {f:Nat->Rat}:∀{k:Nat},(∀j,j < k->f j=0)->bP k f=0
 | 0,_=>rfl
 | k+1,h=>by
  show bP k f+f k=0
  rw[dj λj hj=>h j (by lia),h k (by lia)];grind
theorem gJ {f:Nat->Rat} {i:Nat}:∀{k:Nat},i < k->(∀j,j < k->j≠i->f j=0)->bP k f=f i
 | k+1,hi,h=>by
  show bP k f+f k=f i
  by_cases e:i=k
  ·subst e;rw[dj λj hj=>h j (by lia) (by lia)];grind
  ·rw[gJ (by lia) λj hj=>h j (by lia),h k (by lia) (λz=>e z.symm)];grind
theorem iC {f:Nat->Nat->Rat} {m:Nat}:∀{k:Nat},bP k (λi=>bP m (f i))=bP m (λj=>bP k λi=>f i j)
 | 0=>(dj λ_ _=>rfl).symm
 | k+1=>by
  show bP k (λi=>bP m (f i))+bP m (f k)=bP m (λj=>bP k (λi=>f i j)+f k j)
  rw[iC,qZ]
theorem Bu {rs:List Nat} {W:jf} {v:Nat->jf} {c:Nat->Rat} (a b:List jf):∀{k:Nat} {W:jf},(∀r∈rs,W r=bP k λj=>c j*v j r)->ke rs (a++W :: b)=bP k λj=>c j*ke rs (a++v j :: b)
 | 0,W,h=>K9 h a b
 | k+1,W,h=>by
  rw[sW (f:=λr=>bP k λj=>c j*v j r) (g:=v k) (x:=1) (y:=c k) (λr hr=>by rw[h r hr];show bP k _+_=_;grind) a b,Bu a b (k:=k) (W:=λr=>bP k λj=>c j*v j r) λr _=>rfl];show _=bP k _+_
  grind
end L2
namespace L2
open Nm
def qG (f:Nat->Nat):Nat->List Nat
 | 0=>[]
 | k+1=>f k :: qG f k
def jH (v:Nat->jf):Nat->List jf
 | 0=>[]
 | k+1=>v k :: jH v k
def Fh (v:Nat->jf) (i:Nat):Nat->List jf
 | 0=>[]
 | k+1=>if k<=i then [] else v k :: Fh v i k
theorem vq {f:Nat->Nat}:∀{k:Nat},(qG f k).length=k
 | 0=>rfl
 | k+1=>by show (qG f k).length+1=_;rw[vq]
theorem cw_len {v:Nat->jf}:∀{k:Nat},(jH v k).length=k
 | 0=>rfl
 | k+1=>by show (jH v k).length+1=_;rw[cw_len]
theorem nZ {f:Nat->Nat} {r:Nat}:∀{k:Nat},r∈qG f k->∃t,t < k/\r=f t
 | k+1,h=>by
  rcases aL.mp h with h | h
  ·exact ⟨k,by lia,h⟩
  ·obtain ⟨t,a,b⟩:=nZ h;exact ⟨t,by lia,b⟩
theorem Gz {f g:Nat->Nat}:∀{k:Nat},(∀j,j < k->f j=g j)->qG f k=qG g k
 | 0,_=>rfl
 | k+1,h=>by
  show f k :: qG f k=g k :: qG g k
  rw[h k (by lia),Gz λj hj=>h j (by lia)]
theorem cw_congr {f g:Nat->jf}:∀{k:Nat},(∀j,j < k->f j=g j)->jH f k=jH g k
 | 0,_=>rfl
 | k+1,h=>by
  show f k :: jH f k=g k :: jH g k
  rw[h k (by lia),cw_congr λj hj=>h j (by lia)]
theorem cw_mem {v:Nat->jf} {j:Nat}:∀{k:Nat},j < k->v j∈jH v k
 | k+1,h=>by
  by_cases e:j=k
  ·subst e;exact .head _
  ·exact .tail _ (cw_mem (by lia))
theorem cw_in {v:Nat->jf} {x:jf}:∀{k:Nat},x∈jH v k->∃t,t < k/\x=v t
 | k+1,h=>by
  rcases aL.mp h with h | h
  ·exact ⟨k,by lia,h⟩
  ·obtain ⟨t,a,b⟩:=cw_in h;exact ⟨t,by lia,b⟩
theorem OO {v:Nat->jf} {i j:Nat} (h1:i < j):∀{k:Nat},j < k->v j∈Fh v i k
 | k+1,h=>by
  show v j∈if k<=i then [] else v k :: Fh v i k
  rw[if_neg (by lia)];by_cases e:j=k
  ·subst e;exact .head _
  ·exact .tail _ (OO h1 (by lia))
theorem Lm {v:Nat->jf} {i:Nat} {x:jf}:∀{k:Nat},x∈Fh v i k->∃t,t < k/\x=v t
 | k+1,h=>by
  have h:x∈if k<=i then [] else v k :: Fh v i k:=h
  split at h
  ·cases h
  ·rcases aL.mp h with h | h
   ·exact ⟨k,by lia,h⟩
   ·obtain ⟨t,a,b⟩:=Lm h;exact ⟨t,by lia,b⟩
theorem cw_split {v:Nat->jf} {i:Nat}:∀{k:Nat},i < k->jH v k=Fh v i k++v i :: jH v i
 | k+1,h=>by
  show v k :: jH v k=(if k<=i then [] else v k :: Fh v i k)++_
  by_cases e:i=k
  ·subst e;rw[if_pos (au _)];rfl
  ·rw[if_neg (by lia),cw_split (k:=k) (i:=i) (by lia)];rfl
theorem DH {c:Nat->Rat} (hi:i < k) (hW:∀r∈rs,W r=bP k λj=>c j*v j r):ke rs (Fh v i k++W :: jH v i)=c i*ke rs (jH v k):=by
 rw[Bu (v:=v) (c:=c) (W:=W) _ _ hW,gJ hi λj hj ne=>?_,cw_split hi];rcases cN j i with h | h
 ·obtain ⟨s,t,e⟩:=IT (cw_mem (v:=v) h);rw[e,Fg];grind
 ·obtain ⟨s,t,e⟩:=IT (OO (v:=v) (show i < j by lia) hj);have:=Fg (x:=v j) (rs:=rs) t s (jH v i);rw[e,cJ,fv,this];grind
theorem TC {c:Nat->Rat} (hW:∀r∈rs,W r=bP k λj=>c j*v j r):ke rs (W :: jH v k)=0:=by
 have:=Bu (v:=v) (c:=c) (W:=W) [] (jH v k) hW;rw[c6] at this;rw[this];refine dj λj hj=>?_
 obtain ⟨s,t,e⟩:=IT (cw_mem (v:=v) hj);have:=Fg (x:=v j) (rs:=rs) s [] t;rw[c6] at this;rw[e,c6,this];grind
theorem Mt {c:Nat->Rat} (hi:i∉rs) (h1:W i=bP k (λj=>c j*v j i)+s) (hW:∀r∈rs,W r=bP k λj=>c j*v j r):ke (i :: rs) (W :: jH v k)=s*ke rs (jH v k):=by
 have e:=sW (rs:=i :: rs) (h:=W) (f:=λr=>bP k λj=>c j*v j r) (g:=λr=>if r=i then 1 else 0) (x:=1) (y:=s) (λr hr=>by
  rcases aL.mp hr with rfl | hr
  ·rw[h1,if_pos rfl];grind
  ·rw[hW r hr,if_neg (λz=>hi (by rw[<- z];exact hr))];grind) [] (jH v k)
 rw[c6,c6,c6,TC (c:=c) λr _=>rfl] at e
 have e2:ke (i :: rs) ((λr=>if r=i then (1:Rat) else 0) :: jH v k)=ke rs (jH v k):=by
  show 1*(if i=i then (1:Rat) else 0)*ke rs ([]++jH v k)+Cr (λws=>ke rs ws) i ([]++[λr=>if r=i then (1:Rat) else 0]) (jH v k) (-1)=_
  have hF:∀a b,(λws=>ke rs ws) (a++(λr=>if r=i then (1:Rat) else 0) :: b)=0*(λws=>ke rs ws) (a++(λr=>if r=i then (1:Rat) else 0) :: b)+0*(λws=>ke rs ws) (a++(λr=>if r=i then (1:Rat) else 0) :: b):=λa b=>by
   have:=K9 (h:=λr=>if r=i then (1:Rat) else 0) (rs:=rs) (λr hr=>if_neg λz=>hi (by rw[<- z];exact hr)) a b
   dsimp only
   rw[this];grind
  have:=E5 (r:=i) hF (jH v k) [] [] (-1);rw[this,if_pos rfl,c6];grind
 rw[e2] at e;rw[e];grind
theorem Ro {F:List jf->Rat} {r B W:Nat}:∀{post pre:List jf} {s:Rat},(∀ws,(∀w∈ws,w∈pre++post)->ws.length+1=(pre++post).length->Fr 1 B (F ws))->(∀w∈post,Fr 1 W (w r))->Fr 1 1 s->Fr 1 (post.length*(W*B)) (Cr F r pre post s)
 | [],pre,s,_,_,_=>by show Fr 1 _ 0;exact Fr.zero
 | v :: post,pre,s,hF,hw,hs=>by
  have t1:Fr 1 (W*B) (s*v r*F (pre++post)):=by
   have:=(hs.mul (hw v (.head _))).mul (hF (pre++post) (λw h=>by
    rcases aH.mp h with h | h
    ·exact iJ _ h
    ·exact bO _ (.tail _ h)) (by simp only[aw,bQ];lia))
   simpa using this
  have t2:=Ro (F:=F) (r:=r) (B:=B) (W:=W) (post:=post) (pre:=pre++[v]) (s:=-s) (λws h h'=>hF ws (λw hw=>by simpa using h w hw) (by simpa using h')) (λw h=>hw w (.tail _ h)) (by simpa using hs.neg);exact (t1.add t2).mono (by rw[bQ,cZ];lia)
theorem By {W N:Nat}:∀{rs:List Nat} {vs:List jf},vs.length<=N->(∀v∈vs,∀r∈rs,Fr 1 W (v r))->Fr 1 ((N*W)^rs.length) (ke rs vs)
 | [],[],_,_=>by show Fr 1 1 1;exact (Fr.int (i:=1) (by decide))
 | [],_ :: _,_,_=>by show Fr 1 _ 0;exact Fr.zero
 | r :: rs,vs,hl,h=>by
  have:=Ro (F:=λws=>ke rs ws) (r:=r) (B:=(N*W)^rs.length) (W:=W) (post:=vs) (pre:=[]) (s:=1) (λws h1 h2=>By (by rw[c6] at h2;lia) λv hv r' hr'=>h v (by simpa using h1 v hv) r' (.tail _ hr')) (λw hw=>h w hw r (.head _)) (Fr.int (i:=1) (by decide));refine this.mono ?_;rw[bQ,d5,cg ((N*W)^rs.length),cR N];exact aG _ hl
structure Cp (a:Nat->Nat->Rat) (m k:Nat) (pm p:Nat->Nat) (l:Nat->Nat->Rat) (d:Rat):Prop where
 inj:∀i j,i < m->j < m->pm i=pm j->i=j
 rng:∀i,i < m->pm i < m
 km:k<=m
 d0:d≠0
 det:d=ke (qG pm k) (jH (λj r=>a r (p j)) k)
 eqs:∀i,i < m->∀c,d*a (pm i) c=bP k (λj=>a (pm i) (p j)*l j c)+if i < k then 0 else l i c
 unit:∀i,i < m->∀j,j < k->l i (p j)=if i=j then d else 0
section
variable {a l:Nat->Nat->Rat} {m k:Nat} {pm p:Nat->Nat} {d:Rat}
theorem Cp.start (h:∀i,i < m->pm i=i):Cp a m 0 pm p a 1 where
 inj i j hi hj e:=by rw[h i hi,h j hj] at e;exact e
 rng i hi:=by rw[h i hi];exact hi
 km:=bC _
 d0:=by decide
 det:=rfl
 eqs i hi c:=by
  rw[h i hi,if_neg (by lia)];show 1*a i c=0+a i c
  grind
 unit i _ j hj:=absurd hj (by lia)
theorem Cp.coef (B:Cp a m k pm p l d) (hi:i < m):a (pm i) c=bP k (λj=>(l j c / d)*a (pm i) (p j))+if i < k then 0 else l i c / d:=by
 have h:=B.eqs i hi c;have d0:=B.d0
 have e:bP k (λj=>(l j c / d)*a (pm i) (p j))=(1 / d)*bP k (λj=>a (pm i) (p j)*l j c):=by
  rw[<- c9];exact aZ λj _=>by grind
 rw[e]
 split at h
 ·rw[if_pos (by assumption)];grind
 ·rw[if_neg (by assumption)];grind
theorem Cp.old (B:Cp a m k pm p l d) (hi:i < k):l i c=ke (qG pm k) (Fh (λj r=>a r (p j)) i k++(λr=>a r c) :: jH (λj r=>a r (p j)) i):=by
 have km:=B.km;have d0:=B.d0;rw[DH (v:=λj r=>a r (p j)) (c:=λj=>l j c / d) hi λr hr=>?_,<- B.det]
 ·grind
 ·obtain ⟨t,ht,rfl⟩:=nZ hr;have:=B.coef (i:=t) (c:=c) (by lia);rw[if_pos ht] at this;rw[this];grind
theorem Cp.new (B:Cp a m k pm p l d) (h1:k<=i) (hi:i < m):l i c=ke (pm i :: qG pm k) ((λr=>a r c) :: jH (λj r=>a r (p j)) k):=by
 have km:=B.km;have d0:=B.d0
 have hn:pm i∉qG pm k:=λhm=>by
  obtain ⟨t,ht,e⟩:=nZ hm;have:=B.inj i t hi (by lia) e
  lia
 have e1:a (pm i) c=bP k (λj=>(l j c / d)*a (pm i) (p j))+l i c / d:=by
  have:=B.coef (i:=i) (c:=c) hi;rwa [if_neg (by lia)] at this
 have e2:∀r∈qG pm k,a r c=bP k (λj=>(l j c / d)*a r (p j)):=λr hr=>by
  obtain ⟨t,ht,rfl⟩:=nZ hr;have:=B.coef (i:=t) (c:=c) (by lia);rw[if_pos ht] at this;rw[this];grind
 rw[Mt (v:=λj r=>a r (p j)) (c:=λj=>l j c / d) (W:=λr=>a r c) (s:=l i c / d) hn e1 e2,<- B.det];grind
theorem Cp.fr (B:Cp a m k pm p l d) (hN:k < N) (hW:1<=W) (ha:∀i,i < m->∀c,Fr 1 W (a i c)) (hi:i < m):Fr 1 ((N*W)^(k+1)) (l i c):=by
 have km:=B.km;have mono:∀t,t<=k+1->(N*W)^t<=(N*W)^(k+1):=λt ht=>av (a8 (by lia) hW) ht
 have ha':∀r∈qG pm k,∀c,Fr 1 W (a r c):=λr hr c=>by
  obtain ⟨t,ht,rfl⟩:=nZ hr;exact ha _ (B.rng t (by lia)) c
 by_cases h:i < k
 ·rw[B.old h];refine (By (W:=W) (N:=N) ?_ ?_).mono (mono _ (by rw[vq];lia))
  ·have:=congrArg List.length (cw_split (v:=λj r=>a r (p j)) h);rw[aw,bQ,cw_len] at this;rw[aw,bQ]
   lia
  ·intro v hv r hr;rcases aH.mp hv with hv | hv
   ·obtain ⟨t,_,rfl⟩:=Lm hv;exact ha' r hr _
   ·rcases aL.mp hv with rfl | hv
    ·exact ha' r hr _
    ·obtain ⟨t,_,rfl⟩:=cw_in hv;exact ha' r hr _
 ·rw[B.new (by lia) hi];refine (By (W:=W) (N:=N) ?_ ?_).mono (mono _ (by rw[bQ,vq];lia))
  ·rw[bQ,cw_len]
   lia
  ·intro v hv r hr
   have hr':∀c,Fr 1 W (a r c):=λc=>by
    rcases aL.mp hr with rfl | hr
    ·exact ha _ (B.rng i hi) c
    ·exact ha' r hr c
   rcases aL.mp hv with rfl | hv
   ·exact hr' _
   ·obtain ⟨t,_,rfl⟩:=cw_in hv;exact hr' _
theorem Cp.dfr (B:Cp a m k pm p l d) (hN:k<=N) (ha:∀i,i < m->∀c,Fr 1 W (a i c)):Fr 1 ((N*W)^k) d:=by
 have km:=B.km;rw[B.det]
 have:=By (W:=W) (N:=N) (rs:=qG pm k) (vs:=jH (λj r=>a r (p j)) k) (by rw[cw_len];exact hN) λv hv r hr=>by
  obtain ⟨t,ht,rfl⟩:=nZ hr;obtain ⟨t',_,rfl⟩:=cw_in hv;exact ha _ (B.rng t (by lia)) _
 rwa [vq] at this
def xx (k t i:Nat):Nat:=if i=k then t else if i=t then k else i
theorem vP (hk:k < m) (ht:t < m) (hi:i < m):xx k t i < m:=by
 unfold xx
 split
 ·exact ht
 ·split
  ·exact hk
  ·exact hi
theorem Si (h:xx k t i=xx k t j):i=j:=by
 unfold xx at h
 split at h <;> split at h <;> (try split at h) <;> (try split at h) <;> lia
theorem xu (h:k<=t) (hi:i < k):xx k t i=i:=by
 unfold xx;rw[if_neg (by lia),if_neg (by lia)]
theorem zR (h:k<=t) (hi:k<=i):k<=xx k t i:=by
 unfold xx
 split
 ·exact h
 ·split <;> lia
theorem Cp.swap (B:Cp a m k pm p l d) {t:Nat} (h:k<=t) (ht:t < m):Cp a m k (λi=>pm (xx k t i)) p (λi=>l (xx k t i)) d where
 inj i j hi hj e:=Si (B.inj _ _ (vP (by lia) ht hi) (vP (by lia) ht hj) e)
 rng i hi:=B.rng _ (vP (by lia) ht hi)
 km:=B.km
 d0:=B.d0
 det:=by rw[B.det,Gz (f:=pm) (g:=λi=>pm (xx k t i)) λj hj=>by rw[xu h hj]]
 eqs i hi c:=by
  have e:=B.eqs (xx k t i) (vP (by lia) ht hi) c;have e1:bP k (λj=>a (pm (xx k t i)) (p j)*l (xx k t j) c)=bP k (λj=>a (pm (xx k t i)) (p j)*l j c):=aZ λj hj=>by rw[xu h hj]
  rw[e1];by_cases hk:i < k
  ·rw[xu h hk] at e ⊢;exact e
  ·rw[if_neg hk];rw[if_neg (by have:=zR h (show k<=i by lia);lia)] at e;exact e
 unit i hi j hj:=by
  rw[B.unit _ (vP (by lia) ht hi) j hj];by_cases hk:i < k
  ·rw[xu h hk]
  ·have:=zR h (show k<=i by lia);rw[if_neg (by lia),if_neg (by lia)]
theorem Cp.step (B:Cp a m k pm p l d) {c0:Nat} (hk:k < m) (h0:l k c0≠0):Cp a m (k+1) pm (λj=>if j=k then c0 else p j) (λi c=>if i=k then l k c else (l k c0*l i c - l i c0*l k c) / d) (l k c0) where
 inj:=B.inj
 rng:=B.rng
 km:=hk
 d0:=h0
 det:=by
  rw[B.new (au _) hk];show _=ke (pm k :: qG pm k) ((λr=>a r (if k=k then c0 else p k)) :: jH _ k)
  rw[if_pos rfl];congr 2;exact cw_congr λj hj=>by rw[if_neg (show j≠k by lia)]
 eqs i hi c:=by
  have d0:=B.d0;have e1:=B.eqs i hi c;have e2:=B.eqs i hi c0;show l k c0*a (pm i) c=(bP k _+_)+_
  have s1:bP k (λj=>a (pm i) (if j=k then c0 else p j)*(if j=k then l k c else (l k c0*l j c - l j c0*l k c) / d))=(l k c0 / d)*bP k (λj=>a (pm i) (p j)*l j c)+(- l k c / d)*bP k (λj=>a (pm i) (p j)*l j c0):=by
   rw[<- c9,<- c9,<- qZ];refine aZ λj hj=>?_
   rw[if_neg (show j≠k by lia),if_neg (show j≠k by lia)];grind
  rw[s1];simp only[if_true];generalize bP k (λj=>a (pm i) (p j)*l j c)=S1 at e1 ⊢;generalize bP k (λj=>a (pm i) (p j)*l j c0)=S2 at e2 ⊢;rcases kb i k with h | h | h
  ·rw[if_pos h] at e1 e2;rw[if_pos (by lia)];grind
  ·subst h;rw[if_neg (by lia)] at e1 e2;rw[if_pos (by lia)];grind
  ·rw[if_neg (by lia)] at e1 e2;rw[if_neg (by lia),if_neg (by lia)];grind
 unit i hi j hj:=by
  have d0:=B.d0;by_cases e:j=k
  ·subst e;simp only[if_true];by_cases ei:i=j
   ·rw[if_pos ei,if_pos ei]
   ·rw[if_neg ei,if_neg ei];grind
  ·have hj':j < k:=by lia
   rw[if_neg e];by_cases ei:i=k
   ·rw[if_pos ei,B.unit k hk j hj',if_neg (by lia),if_neg (by lia)]
   ·rw[if_neg ei,B.unit i hi j hj',B.unit k hk j hj',if_neg (show k≠j by lia)]
    split
    ·grind
    ·grind
end
def fR (m:Nat) (a:Nat->Nat->Rat) (x:Nat->Rat):Prop:=∃w:Nat->Rat,∀c,x c=bP m λt=>w t*a t c
section
variable {m m' k n:Nat} {a b:Nat->Nat->Rat} {x y:Nat->Rat}
theorem fR.row (hi:i < m):fR m a (a i):=⟨λt=>if t=i then 1 else 0,λc=>by
 rw[gJ hi λj _ ne=>by dsimp only;rw[if_neg ne];grind]
 dsimp only
 rw[if_pos rfl];grind⟩
theorem fR.lin (α β:Rat) (hx:fR m a x) (hy:fR m a y):fR m a λc=>α*x c+β*y c:=by
 obtain ⟨w,hw⟩:=hx;obtain ⟨v,hv⟩:=hy;refine ⟨λt=>α*w t+β*v t,λc=>?_⟩
 dsimp only
 rw[hw c,hv c,<- c9,<- c9,<- qZ];exact aZ λj _=>by grind
theorem fR.congr (h:∀c,x c=y c) (hx:fR m a x):fR m a y:=by obtain ⟨w,hw⟩:=hx;exact ⟨w,λc=>by rw[<- h c];exact hw c⟩
theorem fR.trans (h:∀t,t < m'->fR m a (b t)) (hx:fR m' b x):fR m a x:=by
 obtain ⟨v,hv⟩:=hx
 have h2:∀t,∃w:Nat->Rat,t < m'->∀c,b t c=bP m λs=>w s*a s c:=λt=>by
  by_cases ht:t < m'
  ·obtain ⟨w,hw⟩:=h t ht;exact ⟨w,λ_=>hw⟩
  ·exact ⟨λ_=>0,λz=>absurd z ht⟩
 have hc:=Classical.axiomOfChoice h2;obtain ⟨w,hw⟩:=hc;refine ⟨λs=>bP m' λt=>v t*w t s,λc=>?_⟩;rw[hv c];have e1:bP m' (λt=>v t*b t c)=bP m' (λt=>bP m λs=>v t*(w t s*a s c)):=aZ λt ht=>by rw[hw t ht c,<- c9]
 rw[e1,iC];refine aZ λs _=>?_
 have:bP m' (λt=>v t*w t s)*a s c=a s c*bP m' (λt=>v t*w t s):=eO ..;rw[this,<- c9];exact aZ λt _=>by grind
theorem fR.zero (h:∀c,x c=0):fR m a x:=⟨λ_=>0,λc=>by rw[h c,dj λ_ _=>by grind]⟩
end
structure Iv (m n:Nat) (a:Nat->Nat->Rat) (k:Nat) (p:Nat->Nat) (R:Nat->Nat->Rat):Prop where
 inc:∀i j,i < j->j < k->p i < p j
 low:∀j,j < k->p j < n
 unit:∀i,i < k->∀j,j < k->R i (p j)=if i=j then 1 else 0
 lead:∀i,i < k->∀c,c < p i->R i c=0
 span:∀i,i < m->fR k R (a i)
 back:∀i,i < k->fR m a (R i)
section
variable {m m' k k' n:Nat} {a a' R R':Nat->Nat->Rat} {p p':Nat->Nat} {x:Nat->Rat}
theorem Iv.coef (h:Iv m n a k p R) (hx:fR k R x) (c:Nat):x c=bP k λj=>x (p j)*R j c:=by
 obtain ⟨w,hw⟩:=hx;rw[hw c];refine aZ λj hj=>?_
 rw[hw (p j),gJ hj λt ht ne=>by rw[h.unit t ht j hj,if_neg ne];grind,h.unit j hj j hj,if_pos rfl];grind
theorem Iv.lead_in (h:Iv m n a k p R) (hx:fR k R x) (h1:x c≠0) (h0:∀c',c' < c->x c'=0):∃j,j < k/\p j=c:=by
 refine Classical.byContradiction λhn=>h1 ?_
 rw[h.coef hx c];refine dj λj hj=>?_
 rcases kb (p j) c with z | z | z
 ·rw[h0 _ z];grind
 ·exact absurd ⟨j,hj,z⟩ hn
 ·rw[h.lead j hj c z];grind
theorem inc_le (h1:∀i j,i < j->j < k->p i < p j) (h2:∀i j,i < j->j < k'->p' i < p' j) (hs:∀j,j < k'->∃i,i < k/\p i=p' j):∀{j:Nat},j < k'->∀{i:Nat},i < k->p i=p' j->j<=i
 | 0,_,_,_,_=>bC _
 | j+1,hj,i,hi,e=>by
  obtain ⟨i0,hi0,e0⟩:=hs j (by lia);have:=inc_le h1 h2 hs (j:=j) (by lia) hi0 e0;have lt:=h2 j (j+1) (by lia) hj;rcases kb i0 i with z | z | z
  ·lia
  ·subst z;lia
  ·have:=h1 i i0 z hi0;lia
theorem Oq (h1:∀i j,i < j->j < k->p i < p j) (h:i<=j) (hj:j < k):p i<=p j:=by
 rcases cN i j with z | z
 ·exact aT (h1 i j z hj)
 ·have:i=j:=by lia
  rw[this];exact au _
theorem K4 (h1:∀i j,i < j->j < k->p i < p j) (h2:∀i j,i < j->j < k'->p' i < p' j) (hs:∀j,j < k'->∃i,i < k/\p i=p' j):k'<=k/\∀j,j < k'->p j<=p' j:=by
 refine ⟨?_,λj hj=>?_⟩
 ·rcases lY k' with z | z
  ·lia
  ·obtain ⟨i,hi,e⟩:=hs (k' - 1) (by lia);have:=inc_le h1 h2 hs (j:=k' - 1) (by lia) hi e
   lia
 ·obtain ⟨i,hi,e⟩:=hs j hj;rw[<- e];exact Oq h1 (inc_le h1 h2 hs hj hi e) hi
theorem Iv.uniq (h:Iv m n a k p R) (h':Iv m' n a' k' p' R') (s1:∀i,i < m->fR m' a' (a i)) (s2:∀i,i < m'->fR m a (a' i)):k=k'/\(∀j,j < k->p j=p' j)/\∀i,i < k->∀c,R i c=R' i c:=by
 have x1:∀i,i < k->fR k' R' (R i):=λi hi=>fR.trans (λt ht=>h'.span t ht) (fR.trans s1 (h.back i hi))
 have x2:∀i,i < k'->fR k R (R' i):=λi hi=>fR.trans (λt ht=>h.span t ht) (fR.trans s2 (h'.back i hi))
 have y1:∀j,j < k->∃i,i < k'/\p' i=p j:=λj hj=>h'.lead_in (x1 j hj) (by rw[h.unit j hj j hj,if_pos rfl];decide) (h.lead j hj)
 have y2:∀j,j < k'->∃i,i < k/\p i=p' j:=λj hj=>h.lead_in (x2 j hj) (by rw[h'.unit j hj j hj,if_pos rfl];decide) (h'.lead j hj)
 obtain ⟨z1,w1⟩:=K4 h'.inc h.inc y1;obtain ⟨z2,w2⟩:=K4 h.inc h'.inc y2;have ek:k=k':=Nat.le_antisymm z1 z2;subst ek;have ep:∀j,j < k->p j=p' j:=λj hj=>Nat.le_antisymm (w2 j hj) (w1 j hj)
 refine ⟨rfl,ep,λi hi c=>?_⟩;rw[h.coef (x2 i hi) c,gJ hi λj hj ne=>by rw[ep j hj,h'.unit i hi j hj,if_neg (λz=>ne z.symm)];grind,ep i hi,h'.unit i hi i hi,if_pos rfl];grind
end
structure oG (a:Nat->Nat->Rat) (m k P:Nat) (p:Nat->Nat) (l:Nat->Nat->Rat) (d:Rat):Prop where
 km:k<=m
 d0:d≠0
 unit:∀i,i < m->∀j,j < k->l i (p j)=if i=j then d else 0
 inc:∀i j,i < j->j < k->p i < p j
 low:∀j,j < k->p j < P
 zero:∀i,k<=i->i < m->∀c,c < P->l i c=0
 lead:∀j,j < k->∀c,c < p j->l j c=0
 there:∀i,i < m->fR m l (a i)
 back:∀i,i < m->fR m a (l i)
section
variable {m k n P:Nat} {a l l':Nat->Nat->Rat} {p:Nat->Nat} {d d':Rat}
theorem oG.start:oG a m 0 0 p a 1 where
 km:=bC _
 d0:=by decide
 unit _ _ j hj:=absurd hj (by lia)
 inc _ j _ hj:=absurd hj (by lia)
 low j hj:=absurd hj (by lia)
 zero _ _ _ c hc:=absurd hc (by lia)
 lead j hj:=absurd hj (by lia)
 there i hi:=fR.row hi
 back i hi:=fR.row hi
theorem oG.skip (E:oG a m k P p l d) (h:∀i,k<=i->i < m->l i P=0):oG a m k (P+1) p l d :=
 ⟨E.km,E.d0,E.unit,E.inc,λj hj=>Nat.lt_succ_of_lt (E.low j hj),λi h1 h2 c hc=>by
  by_cases e:c=P
  ·rw[e];exact h i h1 h2
  ·exact E.zero i h1 h2 c (by lia),E.lead,E.there,E.back⟩
theorem Up:xx k t (xx k t i)=i:=by
 unfold xx
 split
 ·split <;> (try split) <;> lia
 ·split
  ·rw[if_pos rfl];lia
  ·rfl
theorem oG.swap (E:oG a m k P p l d) {t:Nat} (h:k<=t) (ht:t < m):oG a m k P p (λi=>l (xx k t i)) d where
 km:=E.km
 d0:=E.d0
 unit i hi j hj:=by
  rw[E.unit _ (vP (by lia) ht hi) j hj];by_cases hk:i < k
  ·rw[xu h hk]
  ·have:=zR h (show k<=i by lia);rw[if_neg (by lia),if_neg (by lia)]
 inc:=E.inc
 low:=E.low
 zero i h1 h2 c hc:=E.zero _ (zR h h1) (vP (by lia) ht h2) c hc
 lead j hj c hc:=by rw[xu h hj];exact E.lead j hj c hc
 there i hi:=fR.trans (λs hs=>fR.congr (λc=>by rw[Up]) (fR.row (a:=λi=>l (xx k t i)) (i:=xx k t s) (vP (by lia) ht hs))) (E.there i hi)
 back i hi:=E.back _ (vP (by lia) ht hi)
theorem oG.step (E:oG a m k P p l d) (hk:k < m) (h0:d'≠0) (unit':∀i,i < m->∀j,j < k+1->l' i (if j=k then P else p j)=if i=j then d' else 0)
  (hl:∀i,i < m->∃β γ:Rat,β≠0/\(i=k->γ=0)/\∀c,l' i c=β*l i c+γ*l k c):oG a m (k+1) (P+1) (λj=>if j=k then P else p j) l' d' where
 km:=hk
 d0:=h0
 unit:=unit'
 inc i j hij hj:=by
  by_cases e:j=k
  ·rw[if_pos e,if_neg (by lia)];exact E.low i (by lia)
  ·rw[if_neg e,if_neg (by lia)];exact E.inc i j hij (by lia)
 low j hj:=by
  by_cases e:j=k
  ·rw[if_pos e];lia
  ·rw[if_neg e];exact Nat.lt_succ_of_lt (E.low j (by lia))
 zero i h1 h2 c hc:=by
  by_cases e:c=P
  ·have:=unit' i h2 k (by lia);rw[if_pos rfl,if_neg (by lia)] at this;rw[e];exact this
  ·obtain ⟨β,γ,_,_,q⟩:=hl i h2;rw[q c,E.zero i (by lia) h2 c (by lia),E.zero k (au _) hk c (by lia)];grind
 lead j hj c hc:=by
  have km:=E.km;obtain ⟨β,γ,_,_,q⟩:=hl j (by lia);by_cases e:j=k
  ·rw[if_pos e] at hc;rw[q c,e,E.zero k (au _) hk c hc];grind
  ·rw[if_neg e] at hc;have:=E.low j (by lia);rw[q c,E.lead j (by lia) c hc,E.zero k (au _) hk c (by lia)];grind
 there i hi:=by
  refine fR.trans (λs hs=>?_) (E.there i hi);obtain ⟨β,γ,b0,_,q⟩:=hl s hs;obtain ⟨βk,γk,bk0,gk,qk⟩:=hl k hk;have g0:=gk rfl;refine fR.congr (λc=>?_) (fR.lin (1 / β) (-(γ / β) / βk) (fR.row (a:=l') hs) (fR.row (a:=l') hk));rw[q c,qk c,g0];grind
 back i hi:=by
  obtain ⟨β,γ,_,_,q⟩:=hl i hi;exact fR.congr (λc=>(q c).symm) (fR.lin β γ (E.back i hi) (E.back k hk))
theorem oG.done (E:oG a m k n p l d) (ha:∀i,i < m->∀c,n<=c->a i c=0):Iv m n a k p (λi c=>l i c / d) where
 inc:=E.inc
 low:=E.low
 unit i hi j hj:=by
  have d0:=E.d0;have km:=E.km;rw[E.unit i (by lia) j hj]
  split
  ·grind
  ·grind
 lead i hi c hc:=by
  rw[E.lead i hi c hc];grind
 span i hi:=by
  have d0:=E.d0;refine fR.trans (λs hs=>?_) (E.there i hi);by_cases z:s < k
  ·refine fR.congr (λc=>?_) (fR.lin d 0 (fR.row (a:=λi c=>l i c / d) z) (fR.row (a:=λi c=>l i c / d) z));grind
  ·refine fR.zero λc=>?_
   by_cases hc:c < n
   ·exact E.zero s (by lia) hs c hc
   ·obtain ⟨w,hw⟩:=E.back s hs;rw[hw c,dj λt ht=>by rw[ha t ht c (by lia)];grind]
 back i hi:=by
  have km:=E.km;have d0:=E.d0;refine fR.congr (λc=>?_) (fR.lin (1 / d) 0 (E.back i (by lia)) (E.back i (by lia)));grind
end
def fF (ls:List (List Int)) (i c:Nat):Rat:=(((ls.getD i []).getD c 0:Int):Rat)
def cU (rows:LR9) (i c:Nat):Rat:=(rows.getD i []).getD c 0
def oZ (ls:List (List Int)) (k t:Nat):List (List Int):=(ls.set k (ls.getD t [])).set t (ls.getD k [])
def Ie (ls:List (List Int)) (k c:Nat) (b:Int):List (List Int):=(ls.map λzs=>List.zipWith (λx y=>((ls.getD k []).getD c 0*x - zs.getD c 0*y).fdiv b) zs (ls.getD k [])).set k (ls.getD k [])
section
variable {ls ls0:List (List Int)} {k t n P c:Nat} {b d:Int} {ps:List Nat}
theorem sU {α:Type} {l:List α} {x e:α} (hi:i < l.length):(l.set i x).getD j e=if j=i then x else l.getD j e:=by
 rw[aa,aa,List.getElem?_set];by_cases h:j=i
 ·subst h;rw[if_pos rfl,if_pos hi,if_pos rfl];rfl
 ·rw[if_neg (λz=>h z.symm),if_neg h]
theorem xv:(oZ ls k t).length=ls.length:=by unfold oZ;rw[dM,dM]
theorem OS:(Ie ls k c b).length=ls.length:=by unfold Ie;rw[dM,aj]
theorem getD_in {α:Type} {l:List α} {e:α} (h:i < l.length):l.getD i e∈l:=by
 rw[aa,af h];exact aM h
theorem Kf (w:∀zs∈ls,zs.length=n) (hk:k < ls.length) (ht:t < ls.length):∀zs∈oZ ls k t,zs.length=n:=λzs hz=>by
 unfold oZ at hz;rcases cy hz with h | h
 ·rcases cy h with h | h
  ·exact w zs h
  ·rw[h];exact w _ (getD_in ht)
 ·rw[h];exact w _ (getD_in hk)
theorem Ln (w:∀zs∈ls,zs.length=n) (hk:k < ls.length):∀zs∈Ie ls k c b,zs.length=n:=λzs hz=>by
 unfold Ie at hz;rcases cy hz with h | h
 ·obtain ⟨y,hy,rfl⟩:=az.mp h;rw[bo,w y hy,w _ (getD_in hk)]
  lia
 ·rw[h];exact w _ (getD_in hk)
theorem wB (hk:k < ls.length) (ht:t < ls.length) (i c:Nat):fF (oZ ls k t) i c=fF ls (xx k t i) c:=by
 unfold fF oZ xx;rw[sU (by rw[dM];exact ht),sU hk];by_cases h1:i=t
 ·rw[if_pos h1];by_cases h2:i=k
  ·rw[if_pos h2,<- h1,<- h2]
  ·rw[if_neg h2,if_pos h1]
 ·rw[if_neg h1];by_cases h2:i=k
  ·rw[if_pos h2,if_pos h2]
  ·rw[if_neg h2,if_neg h2,if_neg h1]
theorem Bt (w:∀zs∈ls,zs.length=n) (hc:n<=c):fF ls i c=0:=by
 unfold fF;by_cases h:i < ls.length
 ·have:=w _ (getD_in (e:=[]) h);rw[aa (l:=ls.getD i []),bg (by lia)];rfl
 ·rw[aa (l:=ls),bg (by lia)];rfl
theorem uy {x:Int} (h:(x:Rat)=0):x=0:=by
 have:(x:Rat)=((0:Int):Rat):=h;exact dI.mp this
theorem JN {x b:Int} (hb:b≠0) (hq:∃z:Int,q=(z:Rat)) (e:(x:Rat)=(b:Rat)*q):((x.fdiv b:Int):Rat)=q:=by
 obtain ⟨z,rfl⟩:=hq;rw[<- aY] at e;have:=dI.mp e;rw[this,Int.mul_fdiv_cancel_left _ hb]
theorem zX (h:Fr 1 W q):∃z:Int,q=(z:Rat):=by
 obtain ⟨z,e,_⟩:=h;exact ⟨z,by rw[<- e];simp⟩
theorem ye {z:Int} (h:Fr 1 W (z:Rat)):z.natAbs<=W:=by
 obtain ⟨y,e,b⟩:=h;have:(z:Rat)=(y:Rat):=by rw[<- e];simp
 rw[dI.mp this];simpa using b
theorem OD (w:∀zs∈ls,zs.length=n) (hk:k < ls.length) (hb:b≠0) (hi:i < ls.length) (hz:∀c,∃z:Int,(fF ls k P*fF ls i c - fF ls i P*fF ls k c) / (b:Rat)=(z:Rat)) (c:Nat) :
  fF (Ie ls k P b) i c=if i=k then fF ls k c else (fF ls k P*fF ls i c - fF ls i P*fF ls k c) / (b:Rat):=by
 by_cases e:i=k
 ·rw[if_pos e];unfold fF Ie;rw[sU (by rw[aj];exact hk),if_pos e]
 ·rw[if_neg e];by_cases hc:c < n
  ·have hb':(b:Rat)≠0:=λz=>hb (uy z)
   have lk:=w _ (getD_in (e:=[]) hk);have li:=w _ (getD_in (e:=[]) hi)
   have e1:fF (Ie ls k P b) i c=(((((ls.getD k []).getD P 0*(ls.getD i []).getD c 0 - (ls.getD i []).getD P 0*(ls.getD k []).getD c 0).fdiv b:Int)):Rat):=by
    unfold Ie;rw[fF,sU (by rw[aj];exact hk),if_neg e];rw[aa (l:=List.map _ ls),aB,af hi];show ((((List.zipWith _ ls[i] (ls.getD k [])).getD c 0:Int)):Rat)=_
    have ei:ls.getD i []=ls[i]:=by rw[aa,af hi];rfl
    rw[<- ei];rw[aa (l:=List.zipWith _ _ _),bu,aa (l:=ls.getD i []) (i:=c),aa (l:=ls.getD k []) (i:=c),af (show c < (ls.getD i []).length by lia),af (show c < (ls.getD k []).length by lia)];rfl
   rw[e1];refine JN hb (hz c) ?_;rw[Rat.intCast_sub,aY,aY];show _=(b:Rat)*((fF ls k P*fF ls i c - fF ls i P*fF ls k c) / (b:Rat))
   show fF ls k P*fF ls i c - fF ls i P*fF ls k c=_
   grind
  ·rw[Bt (Ln w hk) (show n<=c by lia),Bt w (i:=i) (show n<=c by lia),Bt w (i:=k) (show n<=c by lia)];grind
end
section
variable {m k n P:Nat} {a l l2:Nat->Nat->Rat} {pm p p2:Nat->Nat} {d:Rat}
theorem Cp.congr (B:Cp a m k pm p l d) (hp:∀j,j < k->p2 j=p j) (hl:∀i,i < m->∀c,l2 i c=l i c):Cp a m k pm p2 l2 d where
 inj:=B.inj
 rng:=B.rng
 km:=B.km
 d0:=B.d0
 det:=by rw[B.det,cw_congr (f:=λj r=>a r (p j)) (g:=λj r=>a r (p2 j)) λj hj=>by rw[hp j hj]]
 eqs i hi c:=by
  have km:=B.km;rw[B.eqs i hi c,hl i hi c];congr 1;exact aZ λj hj=>by rw[hp j hj,hl j (by lia) c]
 unit i hi j hj:=by rw[hp j hj,hl i hi];exact B.unit i hi j hj
theorem fR.rows (h:∀i,i < m->∀c,l2 i c=l i c) (hx:fR m l x):fR m l2 x:=by obtain ⟨w,hw⟩:=hx;exact ⟨w,λc=>by rw[hw c];exact aZ λt ht=>by rw[h t ht c]⟩
theorem oG.congr (E:oG a m k P p l d) (hp:∀j,j < k->p2 j=p j) (hl:∀i,i < m->∀c,l2 i c=l i c):oG a m k P p2 l2 d where
 km:=E.km
 d0:=E.d0
 unit i hi j hj:=by rw[hp j hj,hl i hi];exact E.unit i hi j hj
 inc i j hij hj:=by rw[hp i (by lia),hp j hj];exact E.inc i j hij hj
 low j hj:=by rw[hp j hj];exact E.low j hj
 zero i h1 h2 c hc:=by rw[hl i h2];exact E.zero i h1 h2 c hc
 lead j hj c hc:=by
  have km:=E.km;rw[hp j hj] at hc;rw[hl j (by lia)];exact E.lead j hj c hc
 there i hi:=(E.there i hi).rows hl
 back i hi:=(E.back i hi).congr λc=>(hl i hi c).symm
theorem oG.kP (E:oG a m k P p l d):k<=P:=by
 have:∀j,j < k->j<=p j:=by
  intro j
  induction j with
  | zero=>intro _;exact bC _
  | succ j ih =>
   intro hj;have:=ih (by lia);have:=E.inc j (j+1) (by lia) hj
   lia
 rcases lY k with z | z
 ·lia
 ·have h1:=this (k - 1) (by lia);have h2:=E.low (k - 1) (by lia)
  lia
end
structure Ea (ls0:List (List Int)) (n P:Nat) (ls:List (List Int)) (ps:List Nat) (d:Int):Prop where
 len:ls.length=ls0.length
 wide:∀zs∈ls,zs.length=n
 bar:∃pm,Cp (fF ls0) ls0.length ps.length pm (λj=>ps.getD j 0) (fF ls) d
 el:oG (fF ls0) ls0.length ps.length P (λj=>ps.getD j 0) (fF ls) d
section
variable {ls0 ls:List (List Int)} {n P:Nat} {ps:List Nat} {d:Int}
theorem Ea.start (w:∀zs∈ls0,zs.length=n):Ea ls0 n 0 ls0 [] 1:=⟨rfl,w,⟨λi=>i,Cp.start λ_ _=>rfl⟩,oG.start⟩
theorem Ea.d0 (h:Ea ls0 n P ls ps d):d≠0:=λz=>h.el.d0 (by rw[z];rfl)
theorem Ea.skip (h:Ea ls0 n P ls ps d) (hz:∀i,ps.length<=i->i < ls.length->fF ls i P=0):Ea ls0 n (P+1) ls ps d:=⟨h.len,h.wide,h.bar,h.el.skip λi h1 h2=>hz i h1 (by rw[h.len];exact h2)⟩
theorem getD_snoc (hj:j < l.length+1):(l++[x]).getD j 0=if j=l.length then x else l.getD j 0:=by
 rw[aa,aa];by_cases e:j=l.length
 ·rw[if_pos e,e,bG (au _),jt];rfl
 ·rw[if_neg e,bY (by lia)]
theorem Ea.int (h:Ea ls0 n P ls ps d) (hW:1<=W) (h0:∀i,i < ls0.length->∀c,Fr 1 W (fF ls0 i c)) (ht:ps.length<=t) (ht2:t < ls.length) (hne:fF ls t P≠0) :
  ∀i,i < ls.length->i≠ps.length->∀c,∃z:Int,(fF (oZ ls ps.length t) ps.length P*fF (oZ ls ps.length t) i c - fF (oZ ls ps.length t) i P*fF (oZ ls ps.length t) ps.length c) / (d:Rat)=(z:Rat):=λi hi ne c=>by
 obtain ⟨pm,B⟩:=h.bar;have hl:=h.len;have hk:ps.length < ls.length:=by lia
 have B1:=(B.swap ht (by lia)).congr (p2:=λj=>ps.getD j 0) (l2:=fF (oZ ls ps.length t)) (λ_ _=>rfl) (λi _ c=>wB hk ht2 i c)
 have h1:fF (oZ ls ps.length t) ps.length P≠0:=by
  rw[wB hk ht2];unfold xx;rw[if_pos rfl];exact hne
 have B2:=B1.step (c0:=P) (by lia) h1;have:=B2.fr (W:=W) (N:=ps.length+2) (by lia) hW h0 (i:=i) (c:=c) (by lia);rw[if_neg ne] at this;exact zX this
theorem Ea.step (h:Ea ls0 n P ls ps d) (hW:1<=W) (h0:∀i,i < ls0.length->∀c,Fr 1 W (fF ls0 i c)) (ht:ps.length<=t) (ht2:t < ls.length) (hne:fF ls t P≠0) :
  Ea ls0 n (P+1) (Ie (oZ ls ps.length t) ps.length P d) (ps++[P]) (((Ie (oZ ls ps.length t) ps.length P d).getD ps.length []).getD P 0):=by
 obtain ⟨pm,B⟩:=h.bar;have hl:=h.len;have hk:ps.length < ls.length:=by lia
 have hz:=h.int hW h0 ht ht2 hne;have w1:=Kf h.wide hk ht2;have k1:ps.length < (oZ ls ps.length t).length:=by rw[xv];exact hk
 have B1:=(B.swap ht (by lia)).congr (p2:=λj=>ps.getD j 0) (l2:=fF (oZ ls ps.length t)) (λ_ _=>rfl) (λi _ c=>wB hk ht2 i c);have E1:=(h.el.swap ht (by lia)).congr (p2:=λj=>ps.getD j 0) (l2:=fF (oZ ls ps.length t)) (λ_ _=>rfl) (λi _ c=>wB hk ht2 i c)
 have h1:fF (oZ ls ps.length t) ps.length P≠0:=by
  rw[wB hk ht2];unfold xx;rw[if_pos rfl];exact hne
 have B2:=B1.step (c0:=P) (by lia) h1
 have fc:∀i,i < ls0.length->∀c,fF (Ie (oZ ls ps.length t) ps.length P d) i c=if i=ps.length then fF (oZ ls ps.length t) ps.length c else (fF (oZ ls ps.length t) ps.length P*fF (oZ ls ps.length t) i c - fF (oZ ls ps.length t) i P*fF (oZ ls ps.length t) ps.length c) / (d:Rat):=λi hi c=>by
  by_cases e:i=ps.length
  ·rw[if_pos e];unfold fF Ie;rw[sU (by rw[aj];exact k1),if_pos e]
  ·have:=OD w1 k1 h.d0 (i:=i) (by rw[xv];lia) (hz i (by lia) e) c;rw[this]
 have ed:(((((Ie (oZ ls ps.length t) ps.length P d).getD ps.length []).getD P 0:Int)):Rat)=fF (oZ ls ps.length t) ps.length P:=by
  have:=fc ps.length (by lia) P;rw[if_pos rfl] at this;exact this
 have lp:(ps++[P]).length=ps.length+1:=by rw[aw];rfl
 have hp:∀j,j < ps.length+1->(ps++[P]).getD j 0=if j=ps.length then P else ps.getD j 0:=λj hj=>getD_snoc hj
 refine ⟨by rw[OS,xv];exact hl,Ln w1 k1,⟨λi=>pm (xx ps.length t i),?_⟩,?_⟩
 ·rw[ed,lp];exact B2.congr hp fc
 ·rw[ed,lp];refine oG.congr (E1.step (d':=fF (oZ ls ps.length t) ps.length P) (l':=λi c=>if i=ps.length then fF (oZ ls ps.length t) ps.length c else (fF (oZ ls ps.length t) ps.length P*fF (oZ ls ps.length t) i c - fF (oZ ls ps.length t) i P*fF (oZ ls ps.length t) ps.length c) / (d:Rat)) (by lia) h1 B2.unit λi hi=>?_) hp fc;have d0:=h.el.d0;by_cases e:i=ps.length
  ·refine ⟨1,0,by decide,λ_=>rfl,λc=>?_⟩;rw[if_pos e,e];grind
  ·refine ⟨fF (oZ ls ps.length t) ps.length P / (d:Rat),-(fF (oZ ls ps.length t) i P) / (d:Rat),?_,λz=>absurd z e,λc=>?_⟩
   ·intro z;apply h1;grind
   ·rw[if_neg e];grind
theorem Ea.sz (h:Ea ls0 n P ls ps d) (hW:1<=W) (h0:∀i,i < ls0.length->∀c,Fr 1 W (fF ls0 i c)) (hP:P<=n) (hr:min ls0.length n<=r) (r15:r<=15):(d.natAbs<=(16*W)^r)/\∀zs∈ls,∀z∈zs,z.natAbs<=(16*W)^r:=by
 obtain ⟨pm,B⟩:=h.bar;have kP:=h.el.kP;have km:=B.km;have hl:=h.len;have mono:∀{s t:Nat},s<=t->(16*W)^s<=(16*W)^t:=λhs=>av (a8 (by decide) hW) hs
 refine ⟨ag (ye (B.dfr (W:=W) (N:=16) (by lia) h0)) (mono (by lia)),λzs hz z hz'=>?_⟩;obtain ⟨i,hi,rfl⟩:=bN hz;obtain ⟨c,hc,rfl⟩:=bN hz';have hw:=h.wide _ (aM hi)
 have ez:fF ls i c=(((ls[i])[c]:Int):Rat):=by
  unfold fF;rw[aa (l:=ls),af hi];show ((ls[i].getD c 0:Int):Rat)=_
  rw[aa,af hc];rfl
 by_cases hk:i < ps.length
 ·have:Fr 1 ((16*W)^ps.length) (fF ls i c):=by
   have hd:=B.d0;rw[B.old hk]
   have:=By (W:=W) (N:=16) (rs:=qG pm ps.length) (vs:=Fh (λj r=>fF ls0 r (ps.getD j 0)) i ps.length++(λr=>fF ls0 r c) :: jH (λj r=>fF ls0 r (ps.getD j 0)) i) (by
    have:=congrArg List.length (cw_split (v:=λj r=>fF ls0 r (ps.getD j 0)) hk);rw[aw,bQ,cw_len] at this;rw[aw,bQ]
    lia) (by
    intro v hv r hr
    have hr':∀c,Fr 1 W (fF ls0 r c):=λc=>by
     obtain ⟨t,ht,rfl⟩:=nZ hr;exact h0 _ (B.rng t (by lia)) c
    rcases aH.mp hv with hv | hv
    ·obtain ⟨t,_,rfl⟩:=Lm hv;exact hr' _
    ·rcases aL.mp hv with rfl | hv
     ·exact hr' _
     ·obtain ⟨t,_,rfl⟩:=cw_in hv;exact hr' _)
   rwa [vq] at this
  rw[ez] at this;exact ag (ye this) (mono (by lia))
 ·by_cases hn:ps.length < n
  ·have:=B.fr (W:=W) (N:=16) (by lia) hW h0 (i:=i) (c:=c) (by lia);rw[ez] at this;exact ag (ye this) (mono (by lia))
  ·have:=h.el.zero i (by lia) (by lia) c (by lia);rw[ez] at this;rw[uy this];exact bC _
end
def Tp (M W:Nat) (q:Rat):Prop:=∃z:Int,q*(M:Rat)=(z:Rat)/\z.natAbs<=W
theorem Tp.of {M V W:Nat} (h:Fr M V q) (hW:V*M<=W):Tp M W q:=by obtain ⟨z,a,b⟩:=h;exact ⟨z,a,ag b hW⟩
theorem Tp.mono (h:Tp M W q) (hW:W<=W'):Tp M W' q:=by obtain ⟨z,a,b⟩:=h;exact ⟨z,a,ag b hW⟩
theorem Tp.fr (h:Tp M W q) (h0:0 < M):Fr M W q:=by obtain ⟨z,a,b⟩:=h;exact ⟨z,a,ag b (dy _ h0)⟩
def FE (rows:LR9) (n w:Nat):Prop:=∃M W:Nat,0 < M/\M<=2^215000/\1<=W/\W<=2^w/\(∀xs∈rows,∀x∈xs,Tp M W x)/\w<=215000/\min rows.length n<=15/\min rows.length n*(w+4)<=445000
def kK (xs:List Rat):List Int:=dO (xs.map nm) (fj (xs.map nm))
theorem vO:(kK xs).length=xs.length:=by unfold kK dO;rw[aj,aj]
theorem BV {xs:List Rat}:0 < fj (xs.map nm):=Bl (by decide) λb hb=>by
 obtain ⟨n,hn,rfl⟩:=az.mp hb;obtain ⟨x,_,rfl⟩:=az.mp hn;exact jk x
theorem Ph:(((kK xs).getD c 0:Int):Rat)=xs.getD c 0*((fj (xs.map nm):Int):Rat):=by
 unfold kK dO;rw[aa,aa,aB,aB];cases e:xs[c]? with
 | none=>show ((0:Int):Rat)=0*_;rw[tT];rfl
 | some x=>exact qW (tj (az.mpr ⟨x,ao e,rfl⟩))
section
variable {rows:LR9} {n w i c:Nat} {xs:List Rat}
theorem FL (hi:i < rows.length):fF (rows.map kK) i c=((fj ((rows.getD i []).map nm):Int):Rat)*cU rows i c:=by
 unfold fF cU
 have e:(rows.map kK).getD i []=kK (rows.getD i []):=by
  rw[aa,aa,aB,af hi];rfl
 rw[e,Ph,eO]
theorem JM (hw:∀xs∈rows,xs.length=n) (hc:n<=c):cU rows i c=0:=by
 unfold cU;by_cases h:i < rows.length
 ·have:=hw _ (getD_in (e:=[]) h);rw[aa (l:=rows.getD i []),bg (by lia)];rfl
 ·rw[aa (l:=rows),bg (by lia)];rfl
theorem J9 (i:Nat) (hi:i < rows.length):fR rows.length (fF (rows.map kK)) (cU rows i):=by
 have h0:((fj ((rows.getD i []).map nm):Int):Rat)≠0:=λz=>by
  have:=BV (xs:=rows.getD i []);have:=uy z
  lia
 refine fR.congr (λc=>?_) (fR.lin (1 / ((fj ((rows.getD i []).map nm):Int):Rat)) 0 (fR.row (a:=fF (rows.map kK)) hi) (fR.row (a:=fF (rows.map kK)) hi));rw[FL hi];grind
theorem J8 (i:Nat) (hi:i < rows.length):fR rows.length (cU rows) (fF (rows.map kK) i):=by
 refine fR.congr (λc=>?_) (fR.lin ((fj ((rows.getD i []).map nm):Int):Rat) 0 (fR.row (a:=cU rows) hi) (fR.row (a:=cU rows) hi));rw[FL hi];grind
theorem uW (h:Tp M W x):(nm x).2∣(M:Int):=by
 obtain ⟨z,e,b⟩:=h
 exact Fr.den (V:=z.natAbs) (M:=M) ⟨z,e,by
  rcases lY M with h | h
  ·subst h;have:(z:Rat)=0:=by rw[<- e];simp
   rw[uy this];simp
  ·exact dy _ h⟩
theorem Ah (h:Tp M W x) (h0:0 < M) (hB:0 < B) (d1:(nm x).2∣B) (d2:B∣(M:Int)):∃t:Int,x*(B:Rat)=(t:Rat)/\t.natAbs<=W:=by
 obtain ⟨z,e,b⟩:=h;obtain ⟨s,es⟩:=d2;refine ⟨(nm x).1*(B / (nm x).2),(qW d1).symm,?_⟩
 have s0:0 < s:=by
  rcases Int.lt_trichotomy s 0 with h | h | h
  ·have:=Int.mul_neg_of_pos_of_neg hB h
   lia
  ·rw[h] at es;lia
  ·exact h
 have e2:(((nm x).1*(B / (nm x).2)*s:Int):Rat)=(z:Rat):=by
  rw[aY,qW d1,<- e,<- bc,es,aY];grind
 have e3:=dI.mp e2;have:((nm x).1*(B / (nm x).2)).natAbs*s.natAbs=z.natAbs:=by rw[<- dZ,e3]
 have h1:1<=s.natAbs:=by lia
 have:=dy ((nm x).1*(B / (nm x).2)).natAbs h1
 lia
theorem Lo (h0:0 < M) (h:∀x∈xs,Tp M W x):fj (xs.map nm)∣(M:Int):=zU (by decide) (Int.one_dvd _) λb hb=>by
 obtain ⟨n,hn,rfl⟩:=az.mp hb;obtain ⟨x,hx,rfl⟩:=az.mp hn;exact ⟨jk x,uW (h x hx)⟩
theorem FE.rowM (F:FE rows n w) (hx:xs∈rows):∃M,Iw M (xs.map nm):=by
 obtain ⟨M,W,h0,h1,hW,h2,h3,h4,_⟩:=F;refine ⟨M,by lia,?_,λy hy=>?_⟩
 ·show ((M:Nat):Int).natAbs < 2^220000
  rw[cX];exact bp h1 (df (by decide) (by decide))
 ·obtain ⟨x,hx',rfl⟩:=az.mp hy;have t:=h3 xs hx x hx';refine ⟨jk x,uW t,?_⟩;obtain ⟨s,e,b⟩:=Ah t h0 (jk x) (LD _) (uW t);have e2:(((nm x).1:Int):Rat)=(s:Rat):=by rw[<- e];exact jR x
  rw[dI.mp e2];exact bp (ag b h2) (df (by decide) (by lia))
theorem FE.ent (F:FE rows n w):∃W:Nat,1<=W/\W<=2^w/\∀i,i < (rows.map kK).length->∀c,Fr 1 W (fF (rows.map kK) i c):=by
 obtain ⟨M,W,h0,h1,hW,h2,h3,h4,_⟩:=F;refine ⟨W,hW,h2,λi hi c=>?_⟩;rw[aj] at hi;have hx:=getD_in (e:=[]) hi;rw[FL hi];unfold cU;generalize rows.getD i []=xs at hx ⊢;by_cases hc:c < xs.length
 ·have t:=h3 xs hx _ (getD_in (e:=0) hc);obtain ⟨s,e,b⟩:=Ah t h0 (BV (xs:=xs)) (tj (az.mpr ⟨_,getD_in (e:=0) hc,rfl⟩)) (Lo h0 (h3 xs hx));rw[eO,e];exact Fr.int b
 ·rw[aa,bg (by lia)];show Fr 1 W (_*0)
  rw[js];exact Fr.zero
end
def cQ (rows:LR9) (n:Nat) (R:LR9) (ps:List Nat):Prop:=R.length=ps.length/\(∀xs∈R,xs.length=n)/\Iv rows.length n (cU rows) ps.length (λj=>ps.getD j 0) (cU R)
structure VX (rows:LR9) (n w:Nat) (R:LR9) (ps:List Nat) (d:Int) (ls:List (List Int)):Prop where
 rr:cQ rows n R ps
 d0:d≠0
 len:ls.length=ps.length
 wide:∀zs∈ls,zs.length=n
 val:∀i c,fF ls i c=(d:Rat)*cU R i c
 dsz:d.natAbs<=2^(min rows.length n*(w+4))
 zsz:∀zs∈ls,∀z∈zs,z.natAbs<=2^(min rows.length n*(w+4))
 tp:∀xs∈R,∀x∈xs,Tp d.natAbs (2^(min rows.length n*(w+4))) x
 km:ps.length<=rows.length
theorem Iv.congrR {a R R2:Nat->Nat->Rat} (h:Iv m n a k p R) (hr:∀i,i < k->∀c,R2 i c=R i c):Iv m n a k p R2 :=
 ⟨h.inc,h.low,λi hi j hj=>by rw[hr i hi];exact h.unit i hi j hj,λi hi c hc=>by rw[hr i hi];exact h.lead i hi c hc,λi hi=>(h.span i hi).rows hr,λi hi=>(h.back i hi).congr λc=>(hr i hi c).symm⟩
theorem Iv.other (h:Iv m n a k p R) (s1:∀i,i < m->fR m' a' (a i)) (s2:∀i,i < m'->fR m a (a' i)):Iv m' n a' k p R :=
 ⟨h.inc,h.low,h.unit,h.lead,λi hi=>fR.trans h.span (s2 i hi),λi hi=>fR.trans s1 (h.back i hi)⟩
theorem Jq (h:W<=2^w):(16*W)^r<=2^(r*(w+4)):=by
 calc (16*W)^r<=(2^(w+4))^r:=tD (by rw[aF];lia) _
  _=2^(r*(w+4)):=by rw[<- xt,cg]
theorem Ea.done (h:Ea (rows.map kK) n n ls ps d) (hw:∀xs∈rows,xs.length=n) (F:FE rows n w) :
  ∃R,VX rows n w R ps d (ls.take ps.length):=by
 obtain ⟨W,hW,W2,ent⟩:=F.ent;obtain ⟨_,_,_,_,_,_,_,_,r15,_⟩:=F;have hl:=h.len;have d0:=h.d0;have d0':(d:Rat)≠0:=λz=>d0 (uy z)
 have km:=h.el.km;have hm:(rows.map kK).length=rows.length:=aj ..;obtain ⟨s1,s2⟩:=h.sz (r:=min rows.length n) hW ent (au _) (by rw[hm];exact au _) r15;have s2':∀zs∈ls,∀z∈zs,z.natAbs<=2^(min rows.length n*(w+4)):=λzs hz z hz'=>ag (s2 zs hz z hz') (Jq W2)
 have er:∀i c,cU ((ls.take ps.length).map λzs=>zs.map λ(z:Int)=>(z:Rat) / (d:Rat)) i c=fF (ls.take ps.length) i c / (d:Rat):=λi c=>by
  unfold cU fF;rw[aa (l:=List.map _ _),aB,aa (l:=List.take _ _)];cases e:(ls.take ps.length)[i]? with
  | none=>show (0:Rat)=((0:Int):Rat) / _;grind
  | some zs =>
   show (zs.map λ(z:Int)=>(z:Rat) / (d:Rat)).getD c 0=((zs.getD c 0:Int):Rat) / (d:Rat)
   rw[aa,aa,aB];cases e2:zs[c]? with
   | none=>show (0:Rat)=((0:Int):Rat) / _;grind
   | some z=>rfl
 have et:∀i,i < ps.length->∀c,fF (ls.take ps.length) i c=fF ls i c:=λi hi c=>by
  unfold fF;rw[aa (l:=List.take _ _),lE hi,<- aa]
 have RR:=(h.el.done λi hi c hc=>Bt (n:=n) (λzs hz=>by
  obtain ⟨xs,hx,rfl⟩:=az.mp hz;rw[vO];exact hw xs hx) hc).congrR (R2:=cU ((ls.take ps.length).map λzs=>zs.map λ(z:Int)=>(z:Rat) / (d:Rat))) λi hi c=>by rw[er,et i hi]
 rw[hm] at RR;refine ⟨(ls.take ps.length).map λzs=>zs.map λ(z:Int)=>(z:Rat) / (d:Rat),⟨by rw[aj,cP];lia,λxs hx=>?_,RR.other J8 J9⟩,d0,by rw[cP];lia,λzs hz=>h.wide zs (cO hz),λi c=>?_,ag s1 (Jq W2),λzs hz=>s2' zs (cO hz),λxs hx x hx'=>?_,by lia⟩
 ·obtain ⟨zs,hz,rfl⟩:=az.mp hx;rw[aj];exact h.wide zs (cO hz)
 ·rw[er];grind
 ·obtain ⟨zs,hz,rfl⟩:=az.mp hx;obtain ⟨z,hz',rfl⟩:=az.mp hx';have b:=s2' zs (cO hz) z hz';rcases Int.natAbs_eq d with e | e
  ·refine ⟨z,?_,b⟩;have:((d.natAbs:Nat):Rat)=(d:Rat):=by rw[<- bc,<- e]
   rw[this];grind
  ·refine ⟨-z,?_,by rw[uV];exact b⟩;have:((d.natAbs:Nat):Rat)=-(d:Rat):=by rw[<- bc,<- eY];congr 1;lia
   rw[this,eY];grind
theorem OB (hl:R.length=R'.length) (w1:∀xs∈R,xs.length=n) (w2:∀xs∈R',xs.length=n) (h:∀i,i < R.length->∀c,cU R i c=cU R' i c):R=R':=by
 apply fu hl;intro i h1 h2;apply fu (by rw[w1 _ (aM h1),w2 _ (aM h2)]);intro c h3 h4;have:=h i h1 c;unfold cU at this;rw[aa (l:=R),aa (l:=R'),af h1,af h2] at this;have this:(R[i]).getD c 0=(R'[i]).getD c 0:=this;rw[aa,aa,af h3,af h4] at this;exact this
theorem cQ.uniq (h:cQ rows n R ps) (h':cQ rows' n R' ps') (s1:∀i,i < rows.length->fR rows'.length (cU rows') (cU rows i)) (s2:∀i,i < rows'.length->fR rows.length (cU rows) (cU rows' i)):R=R'/\ps=ps':=by
 obtain ⟨l1,w1,r1⟩:=h;obtain ⟨l2,w2,r2⟩:=h';obtain ⟨ek,ep,eR⟩:=r1.uniq r2 s1 s2;refine ⟨OB (by lia) w1 w2 λi hi c=>eR i (by lia) c,?_⟩;apply fu ek;intro j h1 h2;have:=ep j h1;rw[aa,aa,af h1,af h2] at this;exact this
theorem cQ.same (h:cQ rows n R ps) (h':cQ rows n R' ps'):R=R'/\ps=ps':=h.uniq h' (λ_ hi=>fR.row hi) (λ_ hi=>fR.row hi)
open PySem PySem.Spec PyProof.Rows
def Ly (l:Addr) (H:Hp) (zs:List Int) (v:V):Prop:=∃q,v=V.ref q/\q≠l/\H q=some (.lst (zs.map V.int))
def tu (l:Addr) (H:Hp) (p:Addr) (ls:List (List Int)):Prop:=p≠l/\∃xs,H p=some (.lst xs)/\Paired (Ly l H) ls xs
theorem Ly.same (h:Ly l H zs v) (e:aI H H'):Ly l H' zs v:=by obtain ⟨q,a,n,b⟩:=h;exact ⟨q,a,n,e _ _ b⟩
theorem Ly.upd {l:Addr} {H:Hp} {zs:List Int} {v:V} {o:HO} (h:Ly l H zs v):Ly l (upd H l o) zs v:=by obtain ⟨q,a,n,b⟩:=h;exact ⟨q,a,n,by rw[bD n];exact b⟩
theorem tu.upd {l:Addr} {H:Hp} {p:Addr} {ls:List (List Int)} {o:HO} (h:tu l H p ls):tu l (upd H l o) p ls:=by obtain ⟨n,xs,a,b⟩:=h;exact ⟨n,xs,by rw[bD n];exact a,Paired.imp' (λ_ _ z=>z.upd) b⟩
theorem ne_old {H:Hp} (h:H l≠none) (n:H r=none):r≠l:=λz=>h (by rw[<- z];exact n)
theorem jx {α β:Type} {F:α->β->Prop}:∀{l1:List α} {l2:List β} (_:Paired F l1 l2) (i:Nat) {x:α} {y:β},F x y->Paired F (l1.set i x) (l2.set i y)
 | _,_,.nil,_,_,_,_=>.nil
 | _,_,.cons _ r,0,_,_,h=>.cons h r
 | _,_,.cons a r,i+1,_,_,h=>.cons a (jx r i h)
theorem M5 (h:ls[i]?=some zs):fF ls i c=((zs.getD c 0:Int):Rat):=by
 unfold fF;rw[aa (l:=ls),h];rfl
theorem VD:((z:Int):Rat)≠0↔z≠0:=⟨λh e=>h (by rw[e];rfl),λh e=>h (uy e)⟩
theorem Af {zs:List Int} (h:c < zs.length):JT (zs.map V.int) (c:Int)=some (V.int (zs.getD c 0)):=dA (by rw[aB,aa,af h];rfl)
inductive Dq (vs:List V) (H:Hp) (Q:VK) (E9:XK):Prop
 | mk (l p:Addr) (ls:List (List Int)) (b c:Nat):vs=[.ref p,.int b,.int c]->tu l H p ls->ls.length<=1000->b<=1000->(∀zs∈ls,c < zs.length)->(∀t:Nat,b<=t->t < ls.length->fF ls t c≠0->Q (.int t) H)->((∀t,b<=t->t < ls.length->fF ls t c=0)->Q .non H)->Dq  vs H Q E9
inductive yA (vs:List V) (H:Hp) (Q:VK) (E9:XK):Prop
 | mk (l p:Addr) (ls:List (List Int)) (t k:Nat):vs=[.ref p,.int t,.int k]->H l≠none->tu l H p ls->ls.length<=1000->t < ls.length->k < ls.length->(∀r H',H r=none->aI H H'->tu l H' r (oZ ls k t)->Q (.ref r) H')->yA  vs H Q E9
inductive Ds (vs:List V) (H:Hp) (Q:VK) (E9:XK):Prop
 | mk (l p:Addr) (ls:List (List Int)) (k c n:Nat) (b:Int):vs=[.ref p,.int k,.int c,.int b]->H l≠none->tu l H p ls->ls.length<=1000->k < ls.length->(∀zs∈ls,zs.length=n)->n<=1000->c < n->b≠0->Sz 449950 b->(∀zs∈ls,∀z∈zs,Sz 449950 z)->(∀r H',H r=none->aI H H'->tu l H' r (Ie ls k c b)->Q (.ref r) H')->Ds  vs H Q E9
theorem NP (K:FG9) {X:Cx} {a b:Expr} {ta:TA} {p pos tpos:Pos} {elts:List Expr} {kk:Nat} (hg:Gl X "zip") (hm:X.mg "zip"=none) (ha:PA X [a,b] ta) (hK:X.K=K:=by rfl) (hs:starEach [a,b] X.env=[(false,eval a X.env),(false,eval b X.env)]:=by rfl) (hs2:starEach [b] X.env=[(false,eval b X.env)]:=by rfl) :
  PI X (.Tuple elts kk tpos) (.Call (.Name "zip" p) [a,b] [] pos) (Ts K ta):=by subst hK;exact lK hg hm ha hs hs2
def eh (ps:List Nat):List V:=ps.map λ(j:Nat)=>V.int (j:Int)
inductive C5 (K:FG9) (vs:List V) (H:Hp) (Q:VK) (E9:XK):Prop
 | mk (p:Addr) (n w:Nat) (H0:Hp) (rows:LR9):vs=[.ref p,.int n]->bB K H0 H p rows->rows.length<=100->n<=100->(∀xs∈rows,xs.length=n)->FE rows n w->(∀t lp qp R ps d ls H',H' t=some (.tup [.ref lp,.ref qp])->H' qp=some (.lst (eh ps))->tu qp H' lp ls->aI H H'->VX rows n w R ps d ls->Q (.ref t) H')->C5 K vs H Q E9
inductive yz (K:FG9) (vs:List V) (H:Hp) (Q:VK) (E9:XK):Prop
 | mk (p:Addr) (n w:Nat) (H0:Hp) (rows:LR9):vs=[.ref p,.int n]->bB K H0 H p rows->rows.length<=100->n<=100->(∀xs∈rows,xs.length=n)->FE rows n w->(∀r R ps M H',H r=none->aI H H'->bB K H H' r R->cQ rows n R ps->ps.length<=rows.length->0 < M->M<=2^(min rows.length n*(w+4))->(∀xs∈R,∀x∈xs,Tp M (2^(min rows.length n*(w+4))) x)->Q (.ref r) H')->yz K vs H Q E9
def OU (rows:LR9) (i:Nat):Rat:=((fj ((rows.getD i []).map nm):Int):Rat)
section
variable {rows rs rs':LR9} {n P w a:Nat} {ps:List Nat}
end
theorem oY (h:Tp M W x) (h0:0 < M) (h1:M<=2^199750) (h2:W<=2^199750):kN x:=by
 refine ⟨?_,?_⟩
 ·obtain ⟨s,e,b⟩:=Ah h h0 (jk x) (LD _) (uW h);have e2:(((nm x).1:Int):Rat)=(s:Rat):=by rw[<- e];exact jR x
  rw[dI.mp e2];exact bp (ag b h2) (df (by decide) (by decide))
 ·have:=lD h0 (zG.mp (uW h));show ((x.den:Nat):Int).natAbs < _
  rw[cX];exact bp (ag this h1) (df (by decide) (by decide))
theorem Tp.mul (h:Tp M W x) (h':Tp M' W' y):Tp (M*M') (W*W') (x*y):=by
 obtain ⟨z,e,b⟩:=h;obtain ⟨z',e',b'⟩:=h';refine ⟨z*z',?_,by rw[dZ];exact ax b b'⟩;rw[aY,<- e,<- e',lS];grind
inductive Dk (K:FG9) (vs:List V) (H:Hp) (Q:VK) (E9:XK):Prop
 | mk (p q:Addr) (xs ys:List Rat):vs=[.ref p,.ref q]->cz K H p xs->cz K H q ys->ys.length=xs.length->xs.length<=1000->(∀x∈xs,kN x)->(∀y∈ys,kN y)->(∀r H',H r=none->aI H H'->cz K H' r (List.zipWith (λx y=>x - y) xs ys)->Q (.ref r) H')->Dk K vs H Q E9
inductive F8 (K:FG9) (vs:List V) (H:Hp) (Q:VK) (E9:XK):Prop
 | mk (p:Addr) (n:Nat) (H0:Hp) (R:LR9) (ps:List Nat):vs=[.ref p]->bB K H0 H p R->R.length<=100->n<=100->(∃rows,cQ rows n R ps)->(∀r H',H r=none->aI H H'->H' r=some (.lst (eh ps))->Q (.ref r) H')->F8 K vs H Q E9
theorem DF {K:FG9} {rows:LR9} (pr:Paired (cY K H0 H) rows vs) (s:aI H H') (n:H q=none) (g:H' q=some (.lst vs)):bB K H0 H' q rows :=
 ⟨vs,g,Paired.imp' (λ_ _ z=>z.same s) pr,λz=>by
  obtain ⟨_,_,q',e,_,_,g',_⟩:=dq pr z;cases e;rw[n] at g';cases g'⟩
theorem cQ.le (h:cQ rows n R ps):ps.length<=n:=by
 obtain ⟨_,_,rr⟩:=h;rcases cN n ps.length with z | z
 ·have inc:∀j,j < ps.length->j<=ps.getD j 0:=by
   intro j
   induction j with
   | zero=>intro _;exact bC _
   | succ j ih =>
    intro hj;have:=ih (by lia);have:=rr.inc j (j+1) (by lia) hj
    lia
  have h1:=inc (ps.length - 1) (by lia);have h2:=rr.low (ps.length - 1) (by lia)
  lia
 ·exact z
theorem Tp.zero:Tp M W 0:=⟨0,by simp,by simp⟩
theorem Tp.add (h:Tp M W x) (h':Tp M W' y):Tp M (W+W') (x+y):=by
 obtain ⟨z,e,b⟩:=h;obtain ⟨z',e',b'⟩:=h';refine ⟨z+z',?_,ag (Int.natAbs_add_le _ _) (RS b b')⟩;rw[Cq,<- e,<- e'];grind
theorem Tp.sum {M W:Nat} {f:Nat->Rat}:∀{k:Nat},(∀j,j < k->Tp M W (f j))->Tp M (k*W) (bP k f)
 | 0,_=>Tp.zero
 | k+1,h=>by
  have:=(Tp.sum (k:=k) λj hj=>h j (by lia)).add (h k (by lia));exact this.mono (by rw[cZ];exact au _)
theorem mL {xs:List Rat} (h:∀x∈xs,Tp M W x) (c:Nat):Tp M W (xs.getD c 0):=by
 by_cases hc:c < xs.length
 ·exact h _ (getD_in hc)
 ·rw[aa,bg (by lia)];exact Tp.zero
theorem Q4 (h:∀xs∈R,∀x∈xs,Tp M W x) (i c:Nat):Tp M W (cU R i c):=by
 unfold cU;by_cases hi:i < R.length
 ·exact mL (h _ (getD_in hi)) c
 ·rw[aa (l:=R),bg (by lia)];exact Tp.zero
theorem Sh (hM:0 < M) (h1:M<=2^215000) (hw:w<=215000) (tp:∀xs∈rows,∀x∈xs,Tp M (2^w) x) (hr:min rows.length n<=m) (h15:m<=15) (h89:m*(w+4)<=445000):FE rows n w :=
 ⟨M,2^w,hM,h1,cA,au _,tp,hw,by lia,ag (aG _ hr) h89⟩
theorem Mw {K:FG9} {g:TG} (Pv:Nat->List V->Hp->Prop) (hz:xs.length<=sizeLine) (h0:Pv 0 [] H) (hl:∀i ys H,i<=xs.length->Pv i ys H->bF K H l xs)
  (hs:∀i x ys H p,xs[i]?=some x->ys.length<=i->Pv i ys H->H p=none->qE σ₀ g tf te (.ref p) (upd H p (.tup [.int i,x])) (λy H'=>Pv (i+1) (ys++[y]) H') (λH'=>Pv (i+1) ys H'))
  (hd:∀ys H,ys.length<=xs.length->Pv xs.length ys H->∀p,H p=none->Q (.ref p) (upd H p (.lst ys))):qP (TU K l) σ₀ g tf te Q H:=by
 refine ⟨λi m ys H=>m=xs.length - i/\i<=xs.length/\ys.length<=i/\Pv i ys H,⟨xs.length,by simp,bC _,bC _,h0⟩,?_⟩;rintro i m ys H ⟨rfl,hi,hy,p⟩;have q1:=hl i ys H hi p;by_cases hlt:i < xs.length
 ·refine .inr ⟨⟨xs,xs[i],q1,by simp [hlt]⟩,by lia,λy H'=>Pv (i+1) (ys++[y]) H',λH'=>Pv (i+1) ys H',λy H' p'=>⟨xs.length - (i+1),by lia,rfl,hlt,by rw[aw,bJ];lia,p'⟩,λH' p'=>⟨xs.length - (i+1),by lia,rfl,hlt,by lia,p'⟩,λx H' y=>?_⟩;obtain ⟨r,x',rfl,hr,rfl,e1⟩:=y;exact hs i x' ys _ r (e1 xs q1) hy p hr
 ·have e:i=xs.length:=by lia
  subst e;exact .inl ⟨⟨xs,q1,au _⟩,by lia,hd ys H hy p⟩
section
variable {X:Cx}
theorem Mx (hc:X.calm=true):oV X (.builtin "min") (λxs H Q=>∃(p:Addr) (ns:List Int),xs=[.ref p]/\bF X.K H p (ns.map V.int)/\0 < ns.length/\∀M,M∈ns->(∀a,a∈ns->M<=a)->Q (.int M) H):=by
 intro pins s σ H xs us Q I r h;obtain ⟨p,ns,rfl,hp,hne,q⟩:=h;obtain ⟨u,rfl,ru⟩:=vals1 r;cases ru;obtain ⟨its,r2,pl,_⟩:=I.list hp;have hi:=intsAre_of r2;have hl:=pl.isList;obtain ⟨xs,e⟩:=hi.allInts.items
 have hns:ns=xs.toList.map (·.1):=by
  rw[<- hi.numsOf,<- nums_intItems,<- e]
 have hsz:0 < xs.size:=by
  have h3:=hne;rw[hns,aj,Array.length_toList] at h3;exact h3
 rw[e] at hl;refine min_intList (I.ok.hd hc) hl hsz λv h' tk hv hk=>?_
 obtain ⟨t,rfl⟩:=intItems_at hv;obtain ⟨h1,h2⟩:=argBest_lt (numAt xs) (xs.size - 1);refine ⟨.int _,H,I.kept hk,⟨_,rfl⟩,q _ ?_ λa ha=>?_⟩
 ·rw[hns,numAt_eq];exact getD_in (by rw[aj,Array.length_toList];lia)
 ·rw[hns] at ha;obtain ⟨j,hj,rfl⟩:=mem_getD ha;rw[aj,Array.length_toList] at hj;rw[<- numAt_eq];exact h2 j (by lia)
theorem CA (K:FG9) (hK:X.K=K):yp X (compareOp .NotIn) (VJ K true):=by subst hK;exact EL
end
theorem Hu {j:Nat}:Vy (.int (j:Int)) (eh ps)=decide (j∈ps):=by
 unfold Vy eh;rw[List.any_map,lW,List.any_eq_true,decide_eq_true_iff];constructor
 ·rintro ⟨x,hx,e⟩;have e:((x:Int) == (j:Int))=true:=e;have:(x:Int)=j:=by simpa using e
  have:x=j:=by lia
  rw[<- this];exact hx
 ·intro h;exact ⟨j,h,by show ((j:Int) == (j:Int))=true;simp⟩
theorem DB:(eh ps).all wC=true:=by
 unfold eh;rw[List.all_map];exact oX.mpr λ_ _=>rfl
theorem wd:(eh ps).length=ps.length:=aj ..
def K3 (ps:List Nat):List Int:=ps.map λ(j:Nat)=>(j:Int)
theorem Mf:eh ps=(K3 ps).map V.int:=by unfold eh K3;rw[nH];rfl
theorem E3 {i:Nat} (h:(eh ps)[i]?=some v):∃j,ps[i]?=some j/\v=V.int (j:Int):=by
 unfold eh at h;rw[aB] at h;cases e:ps[i]? with
 | none=>rw[e] at h;cases h
 | some x=>rw[e] at h;exact ⟨x,rfl,(cv h).symm⟩
def MJ (xs:List Rat) (i:Nat):List Nat:=(List.range i).filter λc=>decide (xs.getD c 0≠0)
theorem KO:MJ xs (i+1)=if xs.getD i 0≠0 then MJ xs i++[i] else MJ xs i:=by
 unfold MJ;rw[qT,List.filter_append];by_cases h:xs.getD i 0≠0
 ·rw[if_pos h,Vs (by simpa using h)];rfl
 ·rw[if_neg h,Vt (by simpa using h)];simp
def IL (ps:List Nat) (i:Nat):List Nat:=(List.range i).filter λc=>decide (c∉ps)
theorem Hw:IL ps (i+1)=if i∉ps then IL ps i++[i] else IL ps i:=by
 unfold IL;rw[qT,List.filter_append];by_cases h:i∉ps
 ·rw[if_pos h,Vs (by simpa using h)];rfl
 ·rw[if_neg h,Vt (by simpa using h)];simp
theorem JL:(IL ps i).length<=i:=by
 unfold IL;exact ag (List.length_filter_le ..) (by rw[bR];exact au _)
inductive F7 (K:FG9) (vs:List V) (H:Hp) (Q:VK) (E9:XK):Prop
 | mk (p:Addr) (xs:List Rat) (j:Nat):vs=[.ref p]->cz K H p xs->xs.length<=1000->j < xs.length->xs.getD j 0≠0->(∀c,c < j->xs.getD c 0=0)->(∀H',aI H H'->Q (.int (j:Int)) H')->F7 K vs H Q E9
inductive Gd (K:FG9) (vs:List V) (H:Hp) (Q:VK) (E9:XK):Prop
 | mk (p:Addr) (n:Nat) (H0:Hp) (R:LR9) (ps:List Nat):vs=[.ref p,.int n]->bB K H0 H p R->R.length<=100->n<=100->(∃rows,cQ rows n R ps)->(∀r H',H r=none->aI H H'->H' r=some (.lst (eh (IL ps n)))->Q (.ref r) H')->Gd K vs H Q E9
def MK (R:LR9) (ps:List Nat) (n at_ j:Nat):List Rat:=(List.range n).map λc=>if c=at_ then 1 else bP j λi=>if ps.getD i 0=c then -(cU R i at_) else 0
def UW (R:LR9) (ps:List Nat) (n at_:Nat):List Rat:=MK R ps n at_ ps.length
def mh (R:LR9) (ps:List Nat) (n:Nat):LR9:=(IL ps n).map (UW R ps n)
section
variable {R rows:LR9} {ps:List Nat} {n a j:Nat}
theorem vC:(MK R ps n a j).length=n:=by unfold MK;rw[aj,bR]
theorem Qw:MK R ps n a 0=RW n a:=by
 unfold MK RW;refine FI λc _=>?_
 by_cases e:c=a
 ·subst e;simp
 ·rw[if_neg e];show (0:Rat)=_
  have:¬(c:Int)=(a:Int):=by lia
  simp [this]
theorem Qx (RR:cQ rows n R ps) (hj:j < ps.length) (ha:a∉ps):(MK R ps n a j).set (ps.getD j 0) (-(cU R j a))=MK R ps n a (j+1):=by
 obtain ⟨_,_,rr⟩:=RR;have low:=rr.low j hj;have pm:ps.getD j 0∈ps:=getD_in hj;apply fu (by rw[dM,vC,vC]);intro c h1 h2;rw[vC] at h2;have e1:(MK R ps n a j)[c]'(by rw[vC];exact h2)=if c=a then 1 else bP j λi=>if ps.getD i 0=c then -(cU R i a) else 0:=by simp only[MK,ji,uU]
 have e2:(MK R ps n a (j+1))[c]'(by rw[vC];exact h2)=if c=a then 1 else bP (j+1) λi=>if ps.getD i 0=c then -(cU R i a) else 0:=by simp only[MK,ji,uU]
 rw[List.getElem_set,e2];have es:bP (j+1) (λi=>if ps.getD i 0=c then -(cU R i a) else 0)=bP j (λi=>if ps.getD i 0=c then -(cU R i a) else 0)+if ps.getD j 0=c then -(cU R j a) else 0:=rfl
 by_cases q:ps.getD j 0=c
 ·rw[if_pos q,if_neg (λz=>ha (by rw[<- z,<- q];exact pm)),es,if_pos q,dj λi hi=>?_,LA];rw[if_neg];intro z;have:=rr.inc i j hi hj
  lia
 ·rw[if_neg q,e1];by_cases z:c=a
  ·rw[if_pos z,if_pos z]
  ·rw[if_neg z,if_neg z,es,if_neg q,nD]
theorem dn:∀{xs ys:List Rat},xs.length=ys.length->cG xs ys=bP xs.length λc=>xs.getD c 0*ys.getD c 0:=by
 intro xs ys h
 have key:∀k,k<=xs.length->cG (xs.take k) (ys.take k)=bP k λc=>xs.getD c 0*ys.getD c 0:=by
  intro k
  induction k with
  | zero=>intro _;rfl
  | succ k ih =>
   intro hk;rw[DI (by lia) (by lia),ih (by lia)];rfl
 have:=key xs.length (au _);rwa [aE (au _),aE (by lia)] at this
theorem Rm (h0:0 < M) (hW:M<=W) (tp:∀xs∈R,∀x∈xs,Tp M W x) (RR:cQ rows n R ps):∀x∈UW R ps n a,Tp M W x:=λx hx=>by
 obtain ⟨_,_,rr⟩:=RR;obtain ⟨c,hc,rfl⟩:=az.mp hx
 split
 ·exact ⟨M,by rw[Ec,bc],by simpa using hW⟩
 ·by_cases hp:∃j,j < ps.length/\ps.getD j 0=c
  ·obtain ⟨j,hj,e⟩:=hp;rw[gJ hj λi hi ne=>if_neg λz=>?_,if_pos e]
   ·obtain ⟨z,ez,b⟩:=Q4 tp j a;exact ⟨-z,by rw[eY,<- ez];grind,by rw[uV];exact b⟩
   ·rcases kb i j with q | q | q
    ·have:=rr.inc i j q hj;lia
    ·exact ne q
    ·have:=rr.inc j i q hi;lia
  ·rw[dj λj hj=>if_neg λz=>hp ⟨j,hj,z⟩];exact Tp.zero
theorem Fd:c∈IL ps n↔c < n/\c∉ps:=by
 unfold IL;rw[qU,kf,decide_eq_true_iff]
end
inductive De (K:FG9) (vs:List V) (H:Hp) (Q:VK) (E9:XK):Prop
 | mk (p:Addr) (n a:Nat) (H0:Hp) (R:LR9) (ps:List Nat):vs=[.ref p,.int n,.int a]->bB K H0 H p R->R.length<=100->n<=100->(∃rows,cQ rows n R ps)->a < n->a∉ps->(∀xs∈R,∀x∈xs,kN x)->(∀r H',H r=none->aI H H'->cz K H' r (UW R ps n a)->Q (.ref r) H')->De K vs H Q E9
theorem Nf:kN 0:=oY (M:=1) (W:=1) Tp.zero (by decide) cA cA
theorem xW (h:xs∈mh R ps n):∃a,a < n/\a∉ps/\xs=UW R ps n a:=by
 obtain ⟨a,ha,rfl⟩:=az.mp h;obtain ⟨h1,h2⟩:=Fd.mp ha;exact ⟨a,h1,h2,rfl⟩
theorem Lc {q:Rat} (h:q.den<=9):q.den∣2520:=by
 have:=q.den_pos;generalize q.den=d at h this;have:d=1\/d=2\/d=3\/d=4\/d=5\/d=6\/d=7\/d=8\/d=9:=by lia
 rcases this with rfl | rfl | rfl | rfl | rfl | rfl | rfl | rfl | rfl <;> decide
theorem OJ (h:Dr 9 q) (hM:2520∣M):Fr M 9 q:=(Fr.own q h.1).dvd (iL (Lc h.2) hM)
def fX (rows:LR9) (due:List Rat):LR9:=List.zipWith (λrow d=>row++[d]) rows due
def vR (R:LR9) (ps:List Nat) (n j:Nat):List Rat:=(List.range n).map λc=>bP j λi=>if ps.getD i 0=c then cU R i n else 0
def mI (R:LR9) (ps:List Nat) (n:Nat):List Rat:=vR R ps n ps.length
section
variable {rows R:LR9} {due xs:List Rat} {ps:List Nat} {n j:Nat}
theorem sN (h:due.length=rows.length):(fX rows due).length=rows.length:=by unfold fX;rw[bo];lia
theorem Qz (h:∀xs∈rows,xs.length=n):∀xs∈fX rows due,xs.length=n+1:=λxs hx=>by
 unfold fX at hx;obtain ⟨i,hi,rfl⟩:=bN hx;rw[dC,aw,h _ (aM _)];rfl
theorem Rv {i:Nat} (h1:rows[i]?=some row) (h2:due[i]?=some d):(fX rows due)[i]?=some (row++[d]):=by
 unfold fX;rw[bu,h1,h2]
theorem DD (hd:due.length=rows.length) (hw:∀xs∈rows,xs.length=n) (hi:i < rows.length):(∀c,c < n->cU (fX rows due) i c=cU rows i c)/\cU (fX rows due) i n=due.getD i 0:=by
 have e1:=af hi;have e2:=af (show i < due.length by lia);have ej:=Rv e1 e2;have wi:=hw _ (aM hi);refine ⟨λc hc=>?_,?_⟩
 ·unfold cU;rw[aa (l:=fX rows due),ej,aa (l:=rows),e1];show (rows[i]++[due[i]]).getD c 0=(rows[i]).getD c 0
  rw[aa,aa,bY (by lia)]
 ·unfold cU;rw[aa (l:=fX rows due),ej,aa (l:=due),e2];show (rows[i]++[due[i]]).getD n 0=due[i]
  rw[aa,bG (by lia),wi,jt];rfl
theorem l5:(vR R ps n j).length=n:=by unfold vR;rw[aj,bR]
theorem Nt (h:c < n):(vR R ps n j).getD c 0=bP j λi=>if ps.getD i 0=c then cU R i n else 0:=by
 unfold vR;rw[aa,aB,cM h];rfl
theorem Pw:vR R ps n 0=List.replicate n 0:=by
 unfold vR;show (List.range n).map (λ_=>(0:Rat))=_
 rw[Pc,bR]
theorem Px (RR:cQ J (n+1) R ps) (hj:j < ps.length):(vR R ps n j).set (ps.getD j 0) (cU R j n)=vR R ps n (j+1):=by
 obtain ⟨_,_,rr⟩:=RR;apply fu (by rw[dM,l5,l5]);intro c h1 h2;rw[l5] at h2;have e1:(vR R ps n j)[c]'(by rw[l5];exact h2)=bP j λi=>if ps.getD i 0=c then cU R i n else 0:=by simp only[vR,ji,uU]
 have e2:(vR R ps n (j+1))[c]'(by rw[l5];exact h2)=bP j (λi=>if ps.getD i 0=c then cU R i n else 0)+if ps.getD j 0=c then cU R j n else 0:=by simp only[vR,ji,uU];rfl
 rw[List.getElem_set,e2];by_cases q:ps.getD j 0=c
 ·rw[if_pos q,if_pos q,dj λi hi=>?_,LA];rw[if_neg];intro z;have:=rr.inc i j hi hj
  lia
 ·rw[if_neg q,if_neg q,e1,nD]
theorem Py (hp:c∉ps):(mI R ps n).getD c 0=0:=by
 by_cases hc:c < n
 ·unfold mI;rw[Nt hc,dj λi hi=>?_];rw[if_neg (λz=>hp (by rw[<- z];exact getD_in hi))]
 ·rw[aa,bg (by unfold mI;rw[l5];lia)];rfl
theorem Sm (hd:due.length=rows.length) (hw:∀xs∈rows,xs.length=n) (RR:cQ (fX rows due) (n+1) R ps) (hn:n∉ps) (hr:rows[i]?=some row):cG row (mI R ps n)=due.getD i 0:=by
 obtain ⟨_,_,rr⟩:=RR;have hi:=(aK.mp hr).1;have wr:=hw row (ao hr);have ef:∀c,cU rows i c=row.getD c 0:=λc=>by unfold cU;rw[aa (l:=rows),hr];rfl
 obtain ⟨f1,f2⟩:=DD hd hw hi
 have low:∀j,j < ps.length->ps.getD j 0 < n:=λj hj=>by
  have:=rr.low j hj;have:ps.getD j 0≠n:=λz=>hn (by rw[<- z];exact getD_in hj)
  lia
 have co:=rr.coef (rr.span i (by rw[sN hd];exact hi)) n;rw[f2] at co;rw[co,dn (by unfold mI;rw[l5,wr]),wr]
 have e1:bP n (λc=>row.getD c 0*(mI R ps n).getD c 0)=bP n (λc=>bP ps.length λj=>if ps.getD j 0=c then row.getD (ps.getD j 0) 0*cU R j n else 0):=by
  refine aZ λc hc=>?_
  unfold mI;rw[Nt hc,<- c9];refine aZ λj _=>?_
  split
  ·rename_i q;rw[q]
  ·grind
 rw[e1,<- iC];refine aZ λj hj=>?_
 rw[gJ (i:=ps.getD j 0) (low j hj) λc _ ne=>if_neg λz=>ne z.symm,if_pos rfl,f1 _ (low j hj),ef]
theorem Nr (hd:due.length=rows.length) (hw:∀xs∈rows,xs.length=n) (RR:cQ (fX rows due) (n+1) R ps) (hn:n∈ps):∃w:Nat->Rat,(∀c,c < n->bP rows.length (λi=>w i*cU rows i c)=0)/\bP rows.length (λi=>w i*due.getD i 0)=1:=by
 obtain ⟨_,_,rr⟩:=RR;obtain ⟨j,hj,ej⟩:=bN hn;have ejD:ps.getD j 0=n:=by rw[aa,af hj];exact ej
 obtain ⟨w,hw'⟩:=rr.back j hj;rw[sN hd] at hw';refine ⟨w,λc hc=>?_,?_⟩
 ·have z:=rr.lead j hj c (by rw[ejD];exact hc);rw[hw' c] at z;rw[<- z];exact aZ λi hi=>by rw[(DD hd hw hi).1 c hc]
 ·have u:=rr.unit j hj j hj;rw[if_pos rfl,ejD,hw' n] at u;rw[<- u];exact aZ λi hi=>by rw[(DD hd hw hi).2]
theorem Ut (h0:0 < M) (tp:∀xs∈R,∀x∈xs,Tp M W x) (RR:cQ J (n+1) R ps):∀x∈mI R ps n,Tp M W x:=λx hx=>by
 obtain ⟨_,_,rr⟩:=RR;obtain ⟨c,hc,rfl⟩:=az.mp hx;by_cases hp:∃j,j < ps.length/\ps.getD j 0=c
 ·obtain ⟨j,hj,e⟩:=hp;rw[gJ hj λi hi ne=>if_neg λz=>?_,if_pos e]
  ·exact Q4 tp j n
  ·rcases kb i j with q | q | q
   ·have:=rr.inc i j q hj;lia
   ·exact ne q
   ·have:=rr.inc j i q hi;lia
 ·rw[dj λj hj=>if_neg λz=>hp ⟨j,hj,z⟩];exact Tp.zero
end
inductive An (K:FG9) (vs:List V) (H:Hp) (Q:VK) (E9:XK):Prop
 | mk (p q:Addr) (n w:Nat) (H0:Hp) (rows:LR9) (due:List Rat):vs=[.ref p,.int n,.ref q]->bB K H0 H p rows->cz K H q due->due.length=rows.length->rows.length<=99->n<=99->(∀xs∈rows,xs.length=n)->FE (fX rows due) (n+1) w->((∀x R ps M H',cQ (fX rows due) (n+1) R ps->n∉ps->H x=none->aI H H'->cz K H' x (mI R ps n)->0 < M->M<=2^(min rows.length (n+1)*(w+4))->(∀y∈mI R ps n,Tp M (2^(min rows.length (n+1)*(w+4))) y)->Q (.ref x) H')/\(∀R ps H',cQ (fX rows due) (n+1) R ps->n∈ps->aI H H'->Q .non H'))->An K vs H Q E9
theorem Oe:((List.range n).map λ_=>(0:Rat))=List.replicate n 0:=by rw[Pc,bR]
def Sk (K:FG9):Sp:=λvs H Q _=>∃m:Nat,vs=[.int m]/\m<=100/\∀r H',H r=none->aI H H'->cz K H' r (List.replicate m 0)->Q (.ref r) H'
def Vv (rows:LR9) (ws:List Rat) (n j:Nat):List Rat:=(List.range n).map λc=>bP j λi=>ws.getD i 0*cU rows i c
def Vu (rows:LR9) (ws:List Rat) (n:Nat):List Rat:=Vv rows ws n ws.length
section
variable {rows:LR9} {ws xs row:List Rat} {n j:Nat}
theorem RV:(Vv rows ws n j).length=n:=by unfold Vv;rw[aj,bR]
theorem Kb (hc:c < n):(Vu rows ws n).getD c 0=bP ws.length λi=>ws.getD i 0*cU rows i c:=by
 unfold Vu Vv;rw[aa,aB,cM hc];rfl
theorem vM (hc:c < n):(cp rows n)[c]?=some (rows.map λxs=>xs.getD c 0):=by
 unfold cp;rw[aB,cM hc];rfl
end
theorem Fr.up {M V M' V':Nat} (h:Fr M V x) (hd:M∣M') (hv:V<=V'):Fr M' V' x:=(h.dvd hd).mono hv
section
variable {rows R:LR9} {due:List Rat} {ps:List Nat} {n:Nat}
theorem OQ (hd:due.length=rows.length) (hw:∀xs∈rows,xs.length=n) (RR:cQ (fX rows due) (n+1) R ps) (hn:n∉ps):cQ rows n (R.map λxs=>xs.take n) ps:=by
 obtain ⟨l1,w1,rr⟩:=RR
 have low:∀j,j < ps.length->ps.getD j 0 < n:=λj hj=>by
  have:=rr.low j hj;have:ps.getD j 0≠n:=λz=>hn (by rw[<- z];exact getD_in hj)
  lia
 have ef:∀i c,c < n->cU (R.map λxs=>xs.take n) i c=cU R i c:=λi c hc=>by
  unfold cU;rw[aa (l:=List.map _ R),aB,aa (l:=R)];cases R[i]? with
  | none=>rfl
  | some xs =>
   show (xs.take n).getD c 0=xs.getD c 0
   rw[aa,aa,lE hc]
 have wT:∀xs∈R.map (λxs=>xs.take n),xs.length=n:=λxs hx=>by
  obtain ⟨y,hy,rfl⟩:=az.mp hx;rw[cP,w1 y hy]
  lia
 have far:∀i c,n<=c->cU (R.map λxs=>xs.take n) i c=0:=λi c hc=>JM wT hc
 refine ⟨by rw[aj];exact l1,wT,rr.inc,low,λi hi j hj=>?_,λi hi c hc=>?_,λi hi=>?_,λi hi=>?_⟩
 ·rw[ef i _ (low j hj)];exact rr.unit i hi j hj
 ·have:=low i hi;rw[ef i c (by lia)];exact rr.lead i hi c hc
 ·obtain ⟨w,hw'⟩:=rr.span i (by rw[sN hd];exact hi);refine ⟨w,λc=>?_⟩;by_cases hc:c < n
  ·rw[<- (DD hd hw hi).1 c hc,hw' c];exact aZ λj _=>by rw[ef j c hc]
  ·rw[JM hw (by lia),dj λj _=>by rw[far j c (by lia)];grind]
 ·obtain ⟨w,hw'⟩:=rr.back i hi;rw[sN hd] at hw';refine ⟨w,λc=>?_⟩;by_cases hc:c < n
  ·rw[ef i c hc,hw' c];exact aZ λj hj=>by rw[(DD hd hw hj).1 c hc]
  ·rw[far i c (by lia),dj λj _=>by rw[JM hw (by lia)];grind]
theorem QK {M V D B:Nat} (h:ys.length=xs.length) (hx:∀x∈xs,Fr M V x) (hy:∀y∈ys,Fr D B y):Fr (M*D) (xs.length*(V*B)) (cG xs ys):=by
 rw[dn h.symm]
 have key:∀j,j<=xs.length->Fr (M*D) (j*(V*B)) (bP j λc=>xs.getD c 0*ys.getD c 0):=by
  intro j
  induction j with
  | zero=>intro _;exact Fr.zero
  | succ j ih =>
   intro hj;exact ((ih (by lia)).add ((hx _ (getD_in (by lia))).mul (hy _ (getD_in (by lia))))).mono (Nat.le_of_eq (cZ j (V*B)).symm)
 exact key _ (au _)
end
def Fo (K:FG9) (P:Addr->Prop) (H:Hp) (xs:List Rat) (v:V):Prop:=∃q,v=.ref q/\P q/\cz K H q xs
section
variable {K:FG9} {P:Addr->Prop} {H H':Hp} {xs:List Rat} {v:V} {b l:Addr}
theorem Fo.updL (h:Fo K P H xs v) (hl:H l=some (.lst ys)) (nb:∀q,P q->q≠l):Fo K P (upd H l o) xs v:=by obtain ⟨q,a,c,d⟩:=h;exact ⟨q,a,c,d.updL hl (nb q c)⟩
theorem bB.ofE {rows:LR9} (g:H l=some (.lst us)) (h:Paired (Fo K P H) rows us) (h0:∀q,P q->H0 q=none) (hn:∀q,P q->q≠l):bB K H0 H l rows :=
 ⟨us,g,Paired.imp' (λ_ _ ⟨q,a,c,d⟩=>⟨q,a,h0 q c,d⟩) h,λz=>by
  obtain ⟨_,_,q,e,c,_⟩:=dq h z;cases e;exact hn _ c rfl⟩
end
theorem yE {α β:Type} {F G:α->β->Prop}:∀{l1:List α} {l2:List β},(∀a b,b∈l2->F a b->G a b)->Paired F l1 l2->Paired G l1 l2
 | _,_,_,.nil=>.nil
 | _,_,h,.cons a r=>.cons (h _ _ (by simp) a) (yE (λx y hy=>h x y (by simp [hy])) r)
section
variable {rows rows' R R':LR9} {n w W:Nat} {ps ps':List Nat}
theorem C1 (hw:∀xs∈rows,xs.length=n) (hW:1<=W) (ent:∀i,i < (rows.map kK).length->∀c,Fr 1 W (fF (rows.map kK) i c)):∀P,P<=n->∃ls ps d,Ea (rows.map kK) n P ls ps d:=by
 intro P
 induction P with
 | zero=>intro _;exact ⟨_,_,_,Ea.start λzs hz=>by obtain ⟨x,hx,rfl⟩:=az.mp hz;rw[vO];exact hw x hx⟩
 | succ P ih =>
  intro hP;obtain ⟨ls,ps,d,I⟩:=ih (by lia);by_cases e:∃t,ps.length<=t/\t < ls.length/\fF ls t P≠0
  ·obtain ⟨t,h1,h2,h3⟩:=e;exact ⟨_,_,_,I.step hW ent h1 h2 h3⟩
  ·exact ⟨_,_,_,I.skip λi h1 h2=>by
    by_cases z:fF ls i P=0
    ·exact z
    ·exact absurd ⟨i,h1,h2,z⟩ e⟩
theorem Du (hw:∀xs∈rows,xs.length=n) (F:FE rows n w):∃R ps d ls,VX rows n w R ps d ls:=by
 obtain ⟨W,hW,W2,ent⟩:=F.ent;obtain ⟨ls,ps,d,I⟩:=C1 hw hW ent n (au _);obtain ⟨R,S⟩:=I.done hw F;exact ⟨R,ps,d,_,S⟩
theorem Ux (hw:∀xs∈rows,xs.length=n) (F:FE rows n w) (RR:cQ rows n R ps):ps.length<=rows.length/\∃M,0 < M/\M<=2^(min rows.length n*(w+4))/\∀xs∈R,∀x∈xs,Tp M (2^(min rows.length n*(w+4))) x:=by
 obtain ⟨R2,ps2,d,ls,S⟩:=Du hw F;obtain ⟨rfl,rfl⟩:=S.rr.same RR;exact ⟨S.km,d.natAbs,Int.natAbs_pos.mpr S.d0,S.dsz,S.tp⟩
theorem Mo {p q:Nat->Nat} (hp:∀i j,i < j->j < k->p i < p j) (hq:∀i j,i < j->j < k->q i < q j) (hs:∀i,i < k->∃j,j < k/\q j=p i):∀i,i < k->p i=q i:=by
 have hqm:∀i j,i<=j->j < k->q i<=q j:=λi j h hj=>by
  rcases cN i j with z | z
  ·exact aT (hq i j z hj)
  ·have:i=j:=by lia
   rw[this];exact au _
 have hqi:∀i j,i < k->j < k->q i < q j->i < j:=λi j hi hj h=>by
  rcases cN i j with z | z
  ·exact z
  ·have:=hqm j i z hi
   lia
 have key:∀i,i < k->∀j,j < k->q j=p i->i<=j:=by
  intro i
  induction i with
  | zero=>intro _ j _ _;exact bC _
  | succ i ih =>
   intro hi j hj e;obtain ⟨j',hj',e'⟩:=hs i (by lia);have h1:=ih (by lia) j' hj' e';have h2:=hp i (i+1) (by lia) hi;have:=hqi j' j hj' hj (by lia)
   lia
 have key2:∀t i,i+t+1=k->∀j,j < k->q j=p i->j<=i:=by
  intro t
  induction t with
  | zero=>intro i e j hj _;lia
  | succ t ih =>
   intro i e j hj ej;obtain ⟨j',hj',e'⟩:=hs (i+1) (by lia);have h1:=ih (i+1) (by lia) j' hj' e';have h2:=hp i (i+1) (by lia) (by lia);have:=hqi j j' hj hj' (by lia)
   lia
 intro i hi;obtain ⟨j,hj,e⟩:=hs i hi;have h1:=key i hi j hj e;have h2:=key2 (k - 1 - i) i (by lia) j hj e;have:j=i:=by lia
 rw[<- e,this]
theorem LS (h:cQ rows n R ps) (h':cQ rows' n R' ps') (hl:ps.length=ps'.length) (hs:∀i,i < ps.length->fR ps'.length (cU R') (cU R i)):R=R'/\ps=ps':=by
 obtain ⟨l1,w1,r1⟩:=h;obtain ⟨l2,w2,r2⟩:=h'
 have ep:∀i,i < ps.length->ps.getD i 0=ps'.getD i 0:=Mo r1.inc (by rw[hl];exact r2.inc) λi hi=>by
  have u:=r1.unit i hi i hi;rw[if_pos rfl] at u;obtain ⟨j,hj,e⟩:=r2.lead_in (hs i hi) (c:=ps.getD i 0) (by rw[u];decide) (λc hc=>r1.lead i hi c hc);exact ⟨j,by lia,e⟩
 have eps:ps=ps':=by
  apply fu hl;intro i a b;have:=ep i a;rw[aa,aa,af a,af b] at this;exact this
 refine ⟨OB (n:=n) (by lia) w1 w2 λi hi c=>?_,eps⟩;rw[l1] at hi;rw[r2.coef (hs i hi) c,<- hl,gJ hi λj hj hj'=>?_]
 ·rw[<- ep i hi];have u:=r1.unit i hi i hi;rw[if_pos rfl] at u;rw[u];grind
 ·rw[<- ep j hj];have u:=r1.unit i hi j hj;rw[if_neg (Ne.symm hj')] at u;rw[u];grind
end
def mJ (mv:LR9) (x:List Rat):List Rat:=mv.map λxs=>cG xs x
def kry (mv pt:LR9):Nat->LR9
 | 0=>[]
 | t+1=>pt++(kry mv pt t).map (mJ mv)
section
variable {mv pt R R' S X Y:LR9} {n t m i c:Nat} {ps ps':List Nat} {a:Nat->Nat->Rat}
theorem rZ:(mJ mv x).length=mv.length:=aj ..
theorem NW (lm:mv.length=n) (wm:∀xs∈mv,xs.length=n) (wR:∀xs∈R,xs.length=n) (hi:i < R.length) (c:Nat):cU (R.map (mJ mv)) i c=bP n λj=>cU mv c j*cU R i j:=by
 have wi:=wR _ (aM hi);have e1:(R.map (mJ mv)).getD i []=mJ mv R[i]:=by rw[aa,aB,af hi];rfl
 have e2:R.getD i []=R[i]:=by rw[aa,af hi];rfl
 by_cases hc:c < n
 ·have wc:=wm _ (aM (show c < mv.length by lia));have e3:mv.getD c []=mv[c]'(by lia):=by rw[aa,af (by lia)];rfl
  have e4:(mJ mv R[i]).getD c 0=cG (mv[c]'(by lia)) R[i]:=by
   unfold mJ;rw[aa,aB,af (by lia)];rfl
  unfold cU;rw[e1,e2,e3,e4,dn (by lia),wc]
 ·have e3:mv.getD c []=[]:=by rw[aa,bg (by lia)];rfl
  unfold cU
  rw[e1,e3,aa,bg (by rw[rZ];lia),dj λj _=>by
   show ([]:List Rat).getD j 0*_=0
   rw[aa];show (0:Rat)*_=0
   grind]
  rfl
theorem Jc (lm:mv.length=n) (wm:∀xs∈mv,xs.length=n) (wR:∀xs∈R,xs.length=n) (wS:∀xs∈S,xs.length=n) (hi:i < R.length) (h:fR S.length (cU S) (cU R i)):fR (S.map (mJ mv)).length (cU (S.map (mJ mv))) (cU (R.map (mJ mv)) i):=by
 obtain ⟨w,hw⟩:=h;refine ⟨w,λc=>?_⟩;rw[NW lm wm wR hi,aj]
 have e1:bP n (λj=>cU mv c j*cU R i j)=bP n (λj=>bP S.length λs=>w s*(cU mv c j*cU S s j)):=aZ λj _=>by
  rw[hw j,<- c9];exact aZ λs _=>by grind
 rw[e1,iC];exact aZ λs hs=>by rw[c9,NW lm wm wS hs]
theorem QT (h:i < X.length):cU (X++Y) i=cU X i:=by
 funext c;unfold cU;rw[aa (l:=X++Y),bY h,<- aa]
theorem TL:cU (X++Y) (X.length+i)=cU Y i:=by
 funext c;unfold cU;rw[aa (l:=X++Y),bG (by lia),show X.length+i - X.length=i by lia,<- aa]
theorem En (h1:∀i,i < X.length->fR m a (cU X i)) (h2:∀i,i < Y.length->fR m a (cU Y i)):∀i,i < (X++Y).length->fR m a (cU (X++Y) i):=λi hi=>by
 rw[aw] at hi;by_cases h:i < X.length
 ·rw[QT h];exact h1 i h
 ·obtain ⟨j,rfl⟩:∃j,i=X.length+j:=⟨i - X.length,by lia⟩;rw[TL];exact h2 j (by lia)
theorem Aj (h:i < X.length):fR (X++Y).length (cU (X++Y)) (cU X i):=by
 have:=fR.row (a:=cU (X++Y)) (m:=(X++Y).length) (i:=i) (by rw[aw];lia);rwa [QT h] at this
theorem xB (h:fR Y.length (cU Y) x):fR (X++Y).length (cU (X++Y)) x:=fR.trans (λs hs=>by
 have:=fR.row (a:=cU (X++Y)) (m:=(X++Y).length) (i:=X.length+s) (by rw[aw];lia);rwa [TL] at this) h
theorem gR (lm:mv.length=n) (wp:∀xs∈pt,xs.length=n):∀t,∀xs∈kry mv pt t,xs.length=n:=by
 intro t
 induction t with
 | zero=>intro xs hx;cases hx
 | succ t ih =>
  intro xs hx;rcases aH.mp hx with hx | hx
  ·exact wp xs hx
  ·obtain ⟨y,_,rfl⟩:=az.mp hx;rw[rZ,lm]
theorem Bo (lm:mv.length=n) (wm:∀xs∈mv,xs.length=n) (wp:∀xs∈pt,xs.length=n) (RR:cQ (kry mv pt t) n R ps) (RR':cQ (pt++R.map (mJ mv)) n R' ps'):cQ (kry mv pt (t+1)) n R' ps':=by
 have wk:=gR (mv:=mv) lm wp t;refine ⟨RR'.1,RR'.2.1,RR'.2.2.other ?_ ?_⟩
 ·refine En (λi hi=>Aj hi) λi hi=>xB ?_
  rw[aj] at hi;exact Jc lm wm RR.2.1 wk hi (RR.2.2.back i (by rw[<- RR.1];exact hi))
 ·refine En (λi hi=>Aj hi) λi hi=>xB ?_
  rw[aj] at hi;have:=RR.2.2.span i hi;rw[<- RR.1] at this;exact Jc lm wm wk RR.2.1 hi this
theorem Oi (lm:mv.length=n) (wm:∀xs∈mv,xs.length=n) (wp:∀xs∈pt,xs.length=n):∀t i,i < (kry mv pt t).length->fR (kry mv pt (t+1)).length (cU (kry mv pt (t+1))) (cU (kry mv pt t) i):=by
 intro t
 induction t with
 | zero=>intro i hi;cases hi
 | succ t ih =>
  refine En (λi hi=>Aj hi) λi hi=>xB ?_
  rw[aj] at hi;exact Jc lm wm (gR lm wp t) (gR lm wp (t+1)) hi (ih i hi)
theorem Bn (lm:mv.length=n) (wm:∀xs∈mv,xs.length=n) (wp:∀xs∈pt,xs.length=n) (RR:cQ (kry mv pt t) n R ps) (RR':cQ (kry mv pt (t+1)) n R' ps'):∀i,i < ps.length->fR ps'.length (cU R') (cU R i):=λi hi =>
 fR.trans (λs hs=>RR'.2.2.span s hs) (fR.trans (Oi lm wm wp t) (RR.2.2.back i hi))
theorem Ml (lm:mv.length=n) (wm:∀xs∈mv,xs.length=n) (wp:∀xs∈pt,xs.length=n) (RR:cQ (kry mv pt t) n R ps) (RR':cQ (pt++R.map (mJ mv)) n R' ps') (hl:ps'.length=ps.length):∀s,cQ (kry mv pt (t+s)) n R ps:=by
 have K1:=Bo lm wm wp RR RR';obtain ⟨e1,e2⟩:=LS RR K1 hl.symm (Bn lm wm wp RR K1);subst e1 e2;intro s
 induction s with
 | zero=>exact RR
 | succ s ih=>exact Bo lm wm wp ih RR'
theorem Ol (lm:mv.length=n) (wm:∀xs∈mv,xs.length=n) (wp:∀xs∈pt,xs.length=n) (RR:cQ (kry mv pt t) n R ps) (RR':cQ (kry mv pt (t+1)) n R' ps'):ps.length<=ps'.length:=by
 have h:=Bn lm wm wp RR RR'
 have hs:∀i,i < ps.length->∃j,j < ps'.length/\ps'.getD j 0=ps.getD i 0:=λi hi=>by
  have u:=RR.2.2.unit i hi i hi;rw[if_pos rfl] at u;exact RR'.2.2.lead_in (h i hi) (c:=ps.getD i 0) (by rw[u];decide) (λc hc=>RR.2.2.lead i hi c hc)
 rcases cN ps'.length ps.length with z | z
 ·exfalso
  have key:∀i,i < ps.length->∀j,j < ps'.length->ps'.getD j 0=ps.getD i 0->i<=j:=by
   intro i
   induction i with
   | zero=>intro _ j _ _;exact bC _
   | succ i ih =>
    intro hi j hj e;obtain ⟨j',hj',e'⟩:=hs i (by lia);have h1:=ih (by lia) j' hj' e';have h2:=RR.2.2.inc i (i+1) (by lia) hi;rcases cN j' j with y | y
    ·lia
    ·rcases cN j j' with x | x
     ·have:=RR'.2.2.inc j j' x hj'
      lia
     ·have:j=j':=by lia
      rw[this] at e
      lia
  obtain ⟨j,hj,e⟩:=hs (ps.length - 1) (by lia);have:=key (ps.length - 1) (by lia) j hj e
  lia
 ·exact z
theorem Tg {M V c:Nat} (lm:mv.length=n) (wm:∀xs∈mv,xs.length=n) (wp:∀xs∈pt,xs.length=n) (hc:(n+1)*V<=2^c) (fm:GF M V mv) (fp:GF M V pt):∀t,∀xs∈kry mv pt t,∀x∈xs,Fr (M^t) (2^(c*t)) x:=by
 intro t
 induction t with
 | zero=>intro xs hx;cases hx
 | succ t ih =>
  intro xs hx x hx';have hV:V<=2^c:=ag (dN _ (by lia)) hc;rcases aH.mp hx with hx | hx
  ·refine Fr.up (fp xs hx x hx') (by rw[d5];exact c7 _ _) (ag hV (av (by decide) (dy _ (by lia))))
  ·obtain ⟨y,hy,rfl⟩:=az.mp hx;unfold mJ at hx';obtain ⟨r,hr,rfl⟩:=az.mp hx';have wr:=wm r hr;have wy:=gR (mv:=mv) lm wp t y hy;have f:=QK (by lia) (fm r hr) (ih y hy);rw[d5,cg (M^t)];refine f.mono ?_;rw[gX,O3,aF,cg (2^(c*t)),<- cR,wr];exact aG _ (ag (aG _ (by lia)) hc)
def vI (mv pt:LR9) (a c:Nat):Prop:=∃M V:Nat,0 < M/\M<=2^a/\(mv.length+1)*V<=2^c/\GF M V mv/\GF M V pt/\a<=400/\c<=40/\mv.length*(mv.length*(a+c)+4)<=1740/\mv.length*(mv.length*(mv.length*(a+c)+4)+a+c+4)<=445000
theorem vI.swf {a c:Nat} (F:vI mv pt a c) (D:mv.length<=8) (wm:∀xs∈mv,xs.length=mv.length) (wp:∀xs∈pt,xs.length=mv.length) (ht:t<=mv.length):FE (kry mv pt t) mv.length (mv.length*(a+c)):=by
 obtain ⟨M,V,M0,Ma,hV,fm,fp,a3,c3,e14,e89⟩:=F;have f:=Tg rfl wm wp hV fm fp t;have h1:mv.length*(a+c)<=8*440:=ax D (by lia);have hM:M^t<=2^(a*mv.length):=ag (tD Ma _) (by rw[<- xt];exact av (by decide) (aD _ ht));have h2:a*mv.length<=mv.length*(a+c):=by rw[cg];exact aD _ (by lia)
 have h3:mv.length=0\/mv.length*(a+c)<=1740:=by
  rcases lY mv.length with z | z
  ·exact .inl z
  ·right
   have:=dN (mv.length*(a+c)+4) z
   lia
 have h4:mv.length*(a+c)<=1740:=by
  rcases h3 with z | z
  ·rw[z];lia
  ·exact z
 refine ⟨M^t,2^(mv.length*(a+c)),eB M0,ag hM (av (by decide) (by lia)),cA,au _,λxs hx x hx'=>Tp.of (f xs hx x hx') ?_,by lia,by lia,?_⟩
 ·refine ag (ax (av (by decide) (aD c ht)) hM) ?_;rw[<- aF];refine av (by decide) ?_;rw[cg c,cg a,<- gX,tU c];exact au _
 ·exact ag (aG _ (MQ _ _)) (by lia)
theorem vI.tp {a c:Nat} (F:vI mv pt a c) (D:mv.length<=8) (wm:∀xs∈mv,xs.length=mv.length) (wp:∀xs∈pt,xs.length=mv.length) (ht:t<=mv.length) (RR:cQ (kry mv pt t) mv.length R ps):∃M,0 < M/\M<=2^(mv.length*(mv.length*(a+c)+4))/\∀xs∈R,∀x∈xs,Tp M (2^(mv.length*(mv.length*(a+c)+4))) x:=by
 obtain ⟨_,M,h0,h1,h2⟩:=Ux (gR rfl wp t) (F.swf D wm wp ht) RR;have le:2^(min (kry mv pt t).length mv.length*(mv.length*(a+c)+4))<=2^(mv.length*(mv.length*(a+c)+4)):=av (by decide) (aG _ (MQ _ _));exact ⟨M,h0,ag h1 le,λxs hx x hx'=>(h2 xs hx x hx').mono le⟩
theorem vI.step {a c:Nat} (F:vI mv pt a c) (D:mv.length<=8) (wm:∀xs∈mv,xs.length=mv.length) (wp:∀xs∈pt,xs.length=mv.length) (ht:t<=mv.length) (RR:cQ (kry mv pt t) mv.length R ps):FE (pt++R.map (mJ mv)) mv.length (mv.length*(mv.length*(a+c)+4)+a+c):=by
 obtain ⟨N,N0,N1,tN⟩:=F.tp D wm wp ht RR;obtain ⟨M,V,M0,Ma,hV,fm,fp,a3,c3,e14,e89⟩:=F;generalize mv.length*(mv.length*(a+c)+4)=e at *
 have V1:V<=2^c:=ag (dN _ (by lia)) hV;have eW:(2:Nat)^(e+a+c)=2^c*(2^a*2^e):=by rw[<- aF,<- aF];congr 1;lia
 refine ⟨N*M,2^(e+a+c),a8 N0 M0,?_,cA,au _,λxs hx x hx'=>?_,by lia,by lia,?_⟩
 ·exact ag (ax N1 Ma) (by rw[<- aF];exact av (by decide) (by lia))
 ·rcases aH.mp hx with hx | hx
  ·refine Tp.of ((fp xs hx x hx').scaleL N) ?_;rw[eW,cg N];exact ax V1 (ax Ma N1)
  ·obtain ⟨y,hy,rfl⟩:=az.mp hx;unfold mJ at hx';obtain ⟨r,hr,rfl⟩:=az.mp hx';have wr:=wm r hr;have wy:=RR.2.1 y hy;rw[dn (by lia),wr];have t1:∀j,Tp M (V*M) (r.getD j 0):=λj=>mL (λx hx=>Tp.of (fm r hr x hx) (au _)) j
   have t2:∀j,Tp N (2^e) (y.getD j 0):=λj=>mL (tN y hy) j
   have:=Tp.sum (k:=mv.length) (M:=N*M) (W:=V*M*2^e) (f:=λj=>r.getD j 0*y.getD j 0) λj _=>by
    have:=(t1 j).mul (t2 j);rwa [cg M N] at this
   refine this.mono ?_;rw[eW,cR V,<- cR mv.length];exact ax (ag (aG _ (by lia)) hV) (aG _ Ma)
 ·exact ag (aG _ (MQ _ _)) (by rw[show e+a+c+4=e+a+c+4 from rfl];exact e89)
theorem vI.fit {a c:Nat} (F:vI mv pt a c) (D:mv.length<=8) (wm:∀xs∈mv,xs.length=mv.length) (wp:∀xs∈pt,xs.length=mv.length) (ht:t<=mv.length) (RR:cQ (kry mv pt t) mv.length R ps):∀xs∈mv,∀r∈R,FC xs r:=λxs hx r hr=>by
 obtain ⟨N,N0,N1,tN⟩:=F.tp D wm wp ht RR;obtain ⟨M,V,M0,Ma,hV,fm,fp,a3,c3,e14,e89⟩:=F;have V1:V<=2^c:=ag (dN _ (by lia)) hV;have p14:=av (show 0 < 2 by decide) e14;exact ⟨400,40,1740,1740,⟨M,V,M0,ag Ma (av (by decide) a3),ag V1 (av (by decide) c3),fm xs hx⟩,⟨N,2^1740,N0,ag N1 p14,au _,λx hx=>((tN r hr x hx).mono p14).fr N0⟩,by decide⟩
end
inductive Dg (K:FG9) (C:Addr) (vs:List V) (H:Hp) (Q:VK) (E9:XK):Prop
 | mk (x p:Addr) (H0 H1:Hp) (mv pt lk R:LR9):vs=[.ref x,.ref p]->jB K H0 H C x mv pt lk->fk mv pt lk->bB K H1 H p R->R.length<=100->(∀r∈R,r.length=mv.length)->(∀xs∈mv,∀r∈R,FC xs r)->(∀r H',H r=none->aI H H'->bB K H H' r (R.map (mJ mv))->Q (.ref r) H')->Dg K C vs H Q E9
structure Ci (mv pt:LR9) (Rs:List (LR9)):Prop where
 ne:Rs≠[]
 rr:∀t R,Rs[t]?=some R->∃ps,cQ (kry mv pt t) mv.length R ps
 up:∀t R R',Rs[t]?=some R->Rs[t+1]?=some R'->R.length < R'.length
def GrL (K:FG9) (H0 H:Hp) (l:Addr) (Rs:List (LR9)):Prop:=∃us,H l=some (.lst us)/\Paired (λR v=>∃q,v=V.ref q/\H0 q=none/\q≠l/\bB K H0 H q R) Rs us
inductive Dp (K:FG9) (C:Addr) (vs:List V) (H:Hp) (Q:VK) (E9:XK):Prop
 | mk (x:Addr) (a c st:Nat) (H0:Hp) (mv pt lk:LR9):vs=[.ref x,.int st]->st<=1000->jB K H0 H C x mv pt lk->fk mv pt lk->vI mv pt a c->(∀r Rs H',H r=none->aI H H'->GrL K H H' r Rs->Ci mv pt Rs->Rs.length<=st+1->(∀R,Rs.getLast?=some R->∀s,(Rs.length - 1=st/\s=st\/Rs.length - 1 < st/\Rs.length - 1<=s)->∃ps,cQ (kry mv pt s) mv.length R ps)->Q (.ref r) H')->Dp K C vs H Q E9
inductive C8 (K:FG9) (C:Addr) (vs:List V) (H:Hp) (Q:VK) (E9:XK):Prop
 | mk (x:Addr) (a c st:Nat) (H0:Hp) (mv pt lk:LR9):vs=[.ref x,.int st]->st<=1000->jB K H0 H C x mv pt lk->fk mv pt lk->vI mv pt a c->(∀r R ps H',H r=none->aI H H'->bB K H H' r R->cQ (kry mv pt st) mv.length R ps->Q (.ref r) H')->C8 K C vs H Q E9
section
variable {K:FG9} {H0 H1 H H':Hp} {p l:Addr} {rows mv pt R R':LR9} {Rs:List (LR9)} {t:Nat}
theorem bB.weakN (h:bB K H0 H p rows) (hn:∀q,H0 q=none->H1 q=none):bB K H1 H p rows:=by obtain ⟨xs,g,r,n⟩:=h;exact ⟨xs,g,Paired.imp' (λ_ _ ⟨q,a,b,c⟩=>⟨q,a,hn q b,c⟩) r,n⟩
theorem bB.updL (h:bB K H0 H p rows) (hl:H l=some (.lst ys)) (nl:H0 l≠none) (pl:p≠l):bB K H0 (upd H l o) p rows:=by obtain ⟨xs,g,r,n⟩:=h;exact ⟨xs,by rw[bD pl];exact g,Paired.imp' (λ_ _ z=>cY.updL z hl nl) r,n⟩
theorem Sr:cQ [] n [] []:=⟨rfl,(λ_ h=>by cases h),(λ_ _ _ h=>absurd h (di _)),(λ_ h=>absurd h (di _)),(λ_ h=>absurd h (di _)),(λ_ h=>absurd h (di _)),(λ_ h=>absurd h (di _)),(λ_ h=>absurd h (di _))⟩
theorem Ci.len (h:Ci mv pt Rs):∀(t:Nat) (R:LR9),Rs[t]?=some R->t<=R.length:=by
 intro t
 induction t with
 | zero=>intro R _;exact bC _
 | succ t ih =>
  intro R e;have ht:=(aK.mp e).1;have e0:=af (show t < Rs.length by lia);have:=ih _ e0;have:=h.up t _ R e0 e
  lia
theorem Ci.snoc (h:Ci mv pt (Rs++[R])) (h1:cQ (kry mv pt (Rs.length+1)) mv.length R' ps') (h2:R.length < R'.length):Ci mv pt ((Rs++[R])++[R']):=by
 have l1:(Rs++[R]).length=Rs.length+1:=by rw[aw];rfl
 refine ⟨by simp,λt S e=>?_,λt S S' e e'=>?_⟩
 ·rcases cN t (Rs.length+1) with z | z
  ·rw[bY (by lia)] at e;exact h.rr t S e
  ·have ht:=(aK.mp e).1;rw[aw,bJ] at ht;have:t=Rs.length+1:=by lia
   subst this;rw[bG (by lia),l1,jt] at e;cases e;exact ⟨ps',h1⟩
 ·have ht:=(aK.mp e').1;rw[aw,bJ] at ht;rw[bY (by lia)] at e;rcases cN (t+1) (Rs.length+1) with z | z
  ·rw[bY (by lia)] at e';exact h.up t S S' e e'
  ·have:t=Rs.length:=by lia
   subst this;rw[bG (by lia),l1,jt] at e';cases e';rw[bG (au _),jt] at e;cases e;exact h2
end
theorem bB.toE {K:FG9} (h:bB K H0 H l rows):∃us,H l=some (.lst us)/\Paired (Fo K (λq=>H0 q=none/\q≠l) H) rows us:=by
 obtain ⟨us,g,pr,nn⟩:=h;exact ⟨us,g,yE (λxs v hv ⟨q,e,a,b⟩=>⟨q,e,⟨a,λz=>nn (by rw[<- z,<- e];exact hv)⟩,b⟩) pr⟩
theorem DA {α:Type} {v:α}:∀{l:List α},l.Nodup->v∉l->∀j,(l.set j v).Nodup
 | [],_,_,_=>nE
 | a :: l,h,hn,0=>by
  rw[ff] at h;rw[List.set_cons_zero,ff];exact ⟨λz=>hn (.tail _ z),h.2⟩
 | a :: l,h,hn,j+1=>by
  rw[ff] at h;rw[List.set_cons_succ,ff];refine ⟨λz=>?_,DA h.2 (λz=>hn (.tail _ z)) j⟩;rcases cy z with z | z
  ·exact h.1 z
  ·exact hn (by rw[z];exact .head _)
structure j7 (K:FG9) (A:Addr->Prop) (H:Hp) (n:Nat) (C:V->Rat->Prop) (m p l b q0:Addr) (us ws vs:List V):Prop where
 bag:gh H b
 inn:Inner H b q0
 gm:H m=some (.lst us)
 gp:H p=some (.lst ws)
 gl:H l=some (.lst vs)
 lm:us.length=n
 row:∀x∈us++vs++ws,fZ K A H n (C x) x
 nd:(us++vs++ws).Nodup
section
variable {K:FG9} {A:Addr->Prop} {H H':Hp} {n:Nat} {C C':V->Rat->Prop} {m p l b q0 q:Addr} {us ws vs zs:List V} {y:Rat} {v:V}
theorem j7.same (h:j7 K A H n C m p l b q0 us ws vs) (e:aI H H'):j7 K A H' n C m p l b q0 us ws vs :=
 ⟨h.bag.same e,(e.upto (p:=b)).2 _ h.inn,e _ _ h.gm,e _ _ h.gp,e _ _ h.gl,h.lm,λx hx=>(h.row x hx).same e,h.nd⟩
theorem j7.upto (h:j7 K A H n C m p l b q0 us ws vs) (M:Iz A m p l b q0) (u:cI b H H') (B':gh H' b):j7 K A H' n C m p l b q0 us ws vs :=
 ⟨B',u.2 _ h.inn,u.other M.mb h.gm,u.other M.pb h.gp,u.other M.lb h.gl,h.lm,λx hx=>(h.row x hx).upto u h.bag M.ab,h.nd⟩
theorem j7.weak (h:j7 K A H n C m p l b q0 us ws vs) (w:∀x∈us++vs++ws,∀y,C x y->C' x y):j7 K A H n C' m p l b q0 us ws vs :=
 ⟨h.bag,h.inn,h.gm,h.gp,h.gl,h.lm,λx hx=>(h.row x hx).weak (λ_ z=>z) (w x hx),h.nd⟩
theorem j7.put (h:j7 K A H n C m p l b q0 us ws vs) (M:Iz A m p l b q0) (aq:A q) (hq:H q=some (.lst zs)) (hv:b6 K H y v) (hc:C (.ref q) y) (j:Nat):j7 K A (upd H q (.lst (zs.set j v))) n C m p l b q0 us ws vs:=by
 have ne:∀{z},¬A z->z≠q:=λh e=>h (by rw[e];exact aq)
 refine ⟨h.bag.upd h.inn (ne M.ab).symm (ne M.aq).symm,h.inn.upd (ne M.ab).symm,by rw[bD (ne M.am)];exact h.gm,by rw[bD (ne M.ap)];exact h.gp,by rw[bD (ne M.al)];exact h.gl,h.lm,λx hx=>?_,h.nd⟩;by_cases e:x=.ref q
 ·subst e;exact (h.row _ hx).put hq hv hc j
 ·obtain ⟨q1,qs,rfl,a1,r1,l1,c1⟩:=h.row x hx;exact ⟨q1,qs,rfl,a1,r1.updL hq (λz=>e (by rw[z])),l1,c1⟩
theorem j7.set (h:j7 K A H n C m p l b q0 us ws vs) (M:Iz A m p l b q0) (hx:fZ K A H n (C v) v) (hn:v∉us++vs++ws) (j:Nat):j7 K A (upd H m (.lst (us.set j v))) n C m p l b q0 (us.set j v) ws vs:=by
 have mem:∀x∈us.set j v++vs++ws,x=v\/x∈us++vs++ws:=λx hx=>by
  rcases aH.mp hx with hx | hx
  ·rcases aH.mp hx with hx | hx
   ·rcases cy hx with hx | hx
    ·exact .inr (by simp [hx])
    ·exact .inl hx
   ·exact .inr (by simp [hx])
  ·exact .inr (by simp [hx])
 refine ⟨h.bag.upd h.inn M.mb M.mq,h.inn.upd M.mb,aJ,by rw[bD M.mp.symm];exact h.gp,by rw[bD M.ml.symm];exact h.gl,by rw[dM];exact h.lm,λx hx'=>?_,?_⟩
 ·rcases mem x hx' with rfl | hx'
  ·exact hx.other h.gm M.am
  ·exact (h.row x hx').other h.gm M.am
 ·have nd:=h.nd;rw[cJ] at nd hn ⊢;obtain ⟨n1,n2,n3⟩:=dX.mp nd;refine dX.mpr ⟨?_,n2,λa ha c hc=>?_⟩
  ·rcases cN j us.length with z | z
   ·exact DA n1 (λz'=>hn (aH.mpr (.inl z'))) j
   ·rw[List.set_eq_of_length_le z];exact n1
  ·rcases cy ha with ha | rfl
   ·exact n3 a ha c hc
   ·exact λz=>hn (aH.mpr (.inr (by rw[z];exact hc)))
end
theorem K7 (h0:0 < M) (h1:M<=2^800) (hW:W<=2^140) (h:Fr M W x):kN x :=
 JK h0 (ag h1 (av (by decide) (by decide))) (ag hW (av (by decide) (by decide))) h
theorem Qn {t V c:Nat} (ht:t<=3) (hV:V<=2^20) (hc:c<=9):c*(9^t*V)<=2^140:=by
 have h1:9^t<=9^3:=av (by decide) ht;have h2:c*(9^t*V)<=9*(9^3*2^20):=ax hc (ax h1 hV);exact ag h2 (ag (show 9*(9^3*2^20)<=2^40 by decide) (av (by decide) (by decide)))
theorem pN {α:Type} {l:List α} {v:α} (h:l.Nodup) (hn:v∉l):(l++[v]).Nodup:=dX.mpr ⟨h,by simp,λa ha c hc=>by rw[bW.mp hc];exact λz=>hn (by rw[<- z];exact ha)⟩
section
variable {K:FG9} {a:Addr} {xs:List V} {g:TG} {tf:TT} {te:TE} {Q:VK} {σ₀:St} {H:Hp} {α β:Type}
theorem DT (G:Hp->β->V->Prop) (C:β->Prop) (hB:gh H b) (hl:n<=1000) (hG:∀{H' H'' c x},G H' c x->cI b H' H''->gh H' b->G H'' c x)
  (hA:∀{H' c x},G H' c x->∃q,x=V.ref q/\H' q≠none)
  (hs:∀(i:Nat) H' NY NN,i < n->cI b H H'->gh H' b->(∀y c H2,cI b H' H2->gh H2 b->C c->G H2 c y->(∃q,y=V.ref q/\H' q=none)->NY y H2)->qE σ₀ g tf te (.int i) H' NY NN)
  (hd:∀ys cs H' p,H p=none->cI b H H'->gh H' b->H' p=some (.lst ys)->cs.length=n->ys.Nodup->(∀c∈cs,C c)->Paired (G H') cs ys->(∃H2,H2 p=none/\Paired (G H2) cs ys)->Q (.ref p) H'):qP (IP 0 n) σ₀ g tf te Q H:=by
 refine qj (λi ys H'=>cI b H H'/\gh H' b/\∃cs,cs.length=i/\ys.Nodup/\(∀c∈cs,C c)/\Paired (G H') cs ys) (aT (br (by lia))) ⟨(aI.refl _).upto,hB,[],rfl,nE,(λ_ z=>nomatch z),.nil⟩ ?_ ?_
 ·rintro i ys H' hi hlen ⟨u,B,cs,lc,nd,hc,pr⟩;rw[Ae];refine hs i H' _ _ hi u B λy c H2 u2 B2 cc gy ⟨q,ey,nq⟩=>⟨u.trans u2,B2,cs++[c],by simp [lc],pN nd (λz=>by obtain ⟨c',_,gc⟩:=dq pr z;obtain ⟨q',e',h'⟩:=hA gc;rw[ey] at e';cases e';exact h' nq),zY hc cc,bV (Paired.imp' (λ_ _ z=>hG z u2 B) pr) (.cons gy .nil)⟩
 ·rintro ys H' hy ⟨u,B,cs,lc,nd,hc,pr⟩ p hp;have s:aI H' (upd H' p (.lst ys)):=aI.new hp;exact hd ys cs _ p (u.none B hp) (u.same s) (B.same s) aJ lc nd hc (Paired.imp' (λ_ _ z=>hG z s.upto B) pr) ⟨H',hp,pr⟩
end
structure JX (K:FG9) (A:Addr->Prop) (n:Nat) (C:Rat->Prop) (m p l b q0:Addr) (us ws vs:List V) (H0 H:Hp):Prop where
 mix:j7 K A H n (λ_=>C) m p l b q0 us ws vs
 gp:H p=some (.lst ws)
 gl:H l=some (.lst vs)
 kp:jg A b m H0 H
section
variable {K:FG9} {A:Addr->Prop} {n:Nat} {C:Rat->Prop} {m p l b q0 q:Addr} {us ws vs:List V} {H0 H H':Hp} {y:Rat} {v:V}
theorem JX.same (h:JX K A n C m p l b q0 us ws vs H0 H) (e:aI H H'):JX K A n C m p l b q0 us ws vs H0 H':=⟨h.mix.same e,e _ _ h.gp,e _ _ h.gl,h.kp.same e⟩
theorem JX.upto (h:JX K A n C m p l b q0 us ws vs H0 H) (M:Iz A m p l b q0) (u:cI b H H') (B:gh H' b):JX K A n C m p l b q0 us ws vs H0 H':=⟨h.mix.upto M u B,u.other M.pb h.gp,u.other M.lb h.gl,h.kp.upto u⟩
theorem JX.row (h:JX K A n C m p l b q0 us ws vs H0 H) (hx:x∈ws\/x∈vs):fZ K A H n C x:=h.mix.row x (by rcases hx with hx | hx <;> simp [hx])
theorem JX.put (h:JX K A n C m p l b q0 us ws vs H0 H) (M:Iz A m p l b q0) (hx:V.ref q∈ws\/V.ref q∈vs) (hv:b6 K H y v) (hc:C y) (j:Nat):∃zs,H q=some (.lst zs)/\zs.length=n/\JX K A n C m p l b q0 us ws vs H0 (upd H q (.lst (zs.set j v))):=by
 obtain ⟨q',zs,qs,e,a,g,lz,_⟩:=(h.row hx).at;cases e;have ne:∀{z},¬A z->z≠q:=λh e=>h (by rw[e];exact a)
 exact ⟨zs,g,lz,h.mix.put M a g hv hc j,by rw[bD (ne M.ap)];exact h.gp,by rw[bD (ne M.al)];exact h.gl,h.kp.upd (.inl a)⟩
end
inductive F5 (K:FG9) (vs:List V) (H:Hp) (Q:VK) (E9:XK):Prop
 | mk (b:Addr) (n w:Nat) (way first:Int):vs=[.ref b,.int n,.int way,.int first,.int w]->gh H b->n<=8->1<=w->w<=1000000->(∀r us H',H r=none->H' r=some (.lst us)->us.length=n->us.Nodup->(∀x∈us,fZ K (λq=>H q=none/\q≠r) H' n (Dr (max w 6)) x)->gh H' b->cI b H H'->Q (.ref r) H')->F5 K vs H Q E9
def PtF (n i o w c:Nat) (mv pt lk:LR9):Prop:=∃M V1:Nat,0 < M/\GF M V1 mv/\GF M V1 pt/\GF M V1 lk/\((w<=9/\M=2520/\V1=9^3*9)\/(9 < w/\M<=2^(c*((n+i+o)*n))/\V1=9^3*2^c))
inductive F6 (K:FG9) (vs:List V) (H:Hp) (Q:VK) (E9:XK):Prop
 | mk (b:Addr) (n:Nat):vs=[.ref b,.int n]->gh H b->1<=n->n<=8->(∀r mv pt lk H',fW K H H' r mv pt lk->mv.length=n->pt.length=1->lk.length=1->fk mv pt lk->GF 1 1 mv->GF 1 1 pt->GF 1 1 lk->gh H' b->cI b H H'->Q (.ref r) H')->F6 K vs H Q E9
theorem zV (M0:0 < M) (hM:M<=2^a) (hn:mv.length<=n0) (hV:(n0+1)*V1<=2^c) (fm:GF M V1 mv) (fp:GF M V1 pt) (h4:a<=400/\c<=40/\n0*(n0*(a+c)+4)<=1740/\n0*(n0*(n0*(a+c)+4)+a+c+4)<=445000):vI mv pt a c:=by
 obtain ⟨h1,h2,h3,h5⟩:=h4;have e1:mv.length*(a+c)<=n0*(a+c):=aG _ hn;have e2:mv.length*(mv.length*(a+c)+4)<=n0*(n0*(a+c)+4):=ax hn (by lia);have e3:mv.length*(mv.length*(mv.length*(a+c)+4)+a+c+4)<=n0*(n0*(n0*(a+c)+4)+a+c+4):=ax hn (by lia);exact ⟨M,V1,M0,hM,ag (aG _ (by lia)) hV,fm,fp,h1,h2,by lia,by lia⟩
def Pn (K:FG9):Sp:=λvs H Q _=>∃b:Addr,vs=[.ref b]/\gh H b /\
 ∀r mv pt lk H',fW K H H' r mv pt lk->6<=mv.length->fk mv pt lk->GF 1 (9^3) mv->GF 1 (9^3) pt->GF 1 (9^3) lk->gh H' b->cI b H H'->Q (.ref r) H'
theorem JP {rs:List Nat} {v v':Nat->jf}:∀{k:Nat} (pre:List jf),(∀j,j < k->∀r∈rs,v j r=v' j r)->ke rs (pre++jH v k)=ke rs (pre++jH v' k)
 | 0,_,_=>rfl
 | k+1,pre,h=>by
  show ke rs (pre++v k :: jH v k)=ke rs (pre++v' k :: jH v' k)
  rw[OI (h k (by lia))];have:=JP (k:=k) (pre++[v' k]) λj hj=>h j (by lia)
  simpa using this
theorem cw_map {τ:jf->jf} {v:Nat->jf}:∀{k:Nat},(jH v k).map τ=jH (λj=>τ (v j)) k
 | 0=>rfl
 | k+1=>by show τ (v k) :: _=_;rw[cw_map];rfl
section
variable {rows fs ls:LR9} {n r M W Wv Wb k P:Nat} {Pm Y Z B E a:Nat->Nat->Rat} {d:Rat} {ps:List Nat} {rs:LR9}
end
section
variable {rows R R1 R2 mv pt:LR9} {n r M V1 W W' Wv Wb k P:Nat} {Pm Y Z B E a:Nat->Nat->Rat} {d:Rat} {ps ps1 ps2:List Nat} {rs:LR9}
theorem RY (h0:0 < M) (h3:∀xs∈rows,∀x∈xs,Tp M W x):∀i,i < rows.length->∀c,Fr 1 W (fF (rows.map kK) i c):=λi hi c=>by
 have hx:=getD_in (e:=[]) hi;rw[FL hi];unfold cU;generalize rows.getD i []=xs at hx ⊢;by_cases hc:c < xs.length
 ·have t:=h3 xs hx _ (getD_in (e:=0) hc);obtain ⟨s,e,b⟩:=Ah t h0 (BV (xs:=xs)) (tj (az.mpr ⟨_,getD_in (e:=0) hc,rfl⟩)) (Lo h0 (h3 xs hx));rw[eO,e];exact Fr.int b
 ·rw[aa,bg (by lia)];show Fr 1 W (_*0)
  rw[js];exact Fr.zero
theorem OA {V:Nat} {f:Nat->Rat}:∀{k:Nat},(∀j,j < k->Fr 1 V (f j))->Fr 1 (k*V) (bP k f)
 | 0,_=>Fr.zero
 | k+1,h=>by
  rw[cZ];exact (OA λj hj=>h j (by lia)).add (h k (by lia))
theorem xy {f:Nat->Rat} {a:Nat}:∀{b:Nat},bP (a+b) f=bP a f+bP b λt=>f (a+t)
 | 0=>by show bP a f=bP a f+0;grind
 | b+1=>by
  show bP (a+b) f+f (a+b)=_+(bP b _+f (a+b))
  rw[xy];grind
end
section
variable {rows R R1 R2 mv pt:LR9} {n t t2 a c:Nat} {ps ps1 ps2:List Nat}
theorem PH (RR:cQ rows n R ps):cQ R n R ps:=⟨RR.1,RR.2.1,RR.2.2.other (λi hi=>by rw[RR.1];exact RR.2.2.span i hi) (λi hi=>RR.2.2.back i (by rw[<- RR.1];exact hi))⟩
theorem QF (h:∀i,i < rows.length->∀c,Tp M W (cU rows i c)):∀xs∈rows,∀x∈xs,Tp M W x:=λxs hx x hx'=>by
 obtain ⟨i,hi,rfl⟩:=bN hx;obtain ⟨c,hc,rfl⟩:=bN hx';have:=h i hi c;unfold cU at this;rw[aa (l:=rows),af hi] at this;have e:(some rows[i]).getD []=rows[i]:=rfl;rw[e,aa,af hc] at this;exact this
end
section
variable {K:FG9} {a:Addr} {xs:List V} {g:TG} {tf:TT} {te:TE} {Q:VK} {σ₀:St} {H:Hp} {α β:Type}
theorem DR {F:Hp->α->V->Prop} (G:Hp->β->V->Prop) (f:α->β) (hx:H a=some (.lst xs)) (pf:Paired (F H) as xs) (hl:as.length<=1000)
  (hF:∀{H H' c x},F H c x->aI H H'->F H' c x) (hG:∀{H H' c x},G H c x->aI H H'->G H' c x) (hA:∀{H' c x},G H' c x->∃q,x=V.ref q/\H' q≠none)
  (hs:∀(i:Nat) c x H' NY NN,as[i]?=some c->aI H H'->F H' c x->(∀y H2,aI H' H2->G H2 (f c) y->(∃q,y=V.ref q/\H' q=none)->NY y H2)->qE σ₀ g tf te x H' NY NN)
  (hd:∀ys H' p,H p=none->aI H H'->H' p=some (.lst ys)->ys.Nodup->(∀y∈ys,∃q,y=V.ref q/\H q=none/\q≠p)->Paired (G H') (as.map f) ys->Q (.ref p) H'):qP (QY K a) σ₀ g tf te Q H:=by
 have lx:=pf.length;refine fJ (K:=K) (xs:=xs) (λi ys H'=>aI H H'/\ys.Nodup/\(∀y∈ys,∃q,y=V.ref q/\H q=none)/\Paired (G H') ((as.take i).map f) ys) (aT (br (by lia))) ⟨aI.refl _,nE,(λ_ z=>nomatch z),.nil⟩ (λi ys H' _ ⟨s,_⟩=>bF.of (s _ _ hx)) ?_ ?_
 ·rintro i x ys H' hx' hlen ⟨s,nd,hn,pr⟩;obtain ⟨c,ec,hc⟩:=bT pf hx';refine hs i c x H' _ _ ec s (hF hc s) λy H2 s2 gy ⟨q,ey,nq⟩=>⟨s.trans s2,pN nd (λz=>?_),zY hn ⟨q,ey,s.none nq⟩,?_⟩
  ·obtain ⟨c',_,gc⟩:=dq pr z;obtain ⟨q',e',h'⟩:=hA gc;rw[ey] at e';cases e';exact h' nq
  ·rw[take_snoc ec,b7];exact bV (Paired.imp' (λ_ _ z=>hG z s2) pr) (.cons gy .nil)
 ·rintro ys H' hy ⟨s,nd,hn,pr⟩ p hp;rw[aE (by lia)] at pr;refine hd ys _ p (s.none hp) (s.trans (aI.new hp)) aJ nd (λy hy=>?_) (Paired.imp' (λ_ _ z=>hG z (aI.new hp)) pr);obtain ⟨q,e,nq⟩:=hn y hy;refine ⟨q,e,nq,λz=>?_⟩;obtain ⟨c',_,gc⟩:=dq pr hy;obtain ⟨q',e',h'⟩:=hA gc;rw[e] at e';cases e';exact h' (by rw[z];exact hp)
end
structure VA (K:FG9) (H0 H:Hp) (n:Nat) (fd:Addr) (L:List (Addr×List V)):Prop where
 gf:H fd=some (.lst (L.map λe=>V.ref e.1))
 nf:H0 fd=none
 ls:∀e∈L,H0 e.1=none/\e.1≠fd/\H e.1=some (.lst e.2)
 nd:(L.map λe=>e.1).Nodup
 rows:∀e∈L,∀x∈e.2,fZ K (λq=>(H0 q=none/\q≠fd)/\q∉L.map λe=>e.1) H n (Fr 1 1) x
 rd:(L.flatMap λe=>e.2).Nodup
section
variable {K:FG9} {H0 H H1:Hp} {n:Nat} {fd q:Addr} {L:List (Addr×List V)} {us:List V}
theorem VA.snoc (h:VA K H0 H n fd L) (s0:aI H0 H) (s:aI H H1) (hq:H q=none) (gq:H1 q=some (.lst us)) (nd:us.Nodup) (hr:∀x∈us,fZ K (λz=>H z=none/\z≠q) H1 n (Fr 1 1) x):VA K H0 (upd H1 fd (.lst ((L.map λe=>V.ref e.1)++[.ref q]))) n fd (L++[(q,us)]):=by
 have qf:q≠fd:=λz=>by rw[z,h.gf] at hq;cases hq
 have old:∀{z},z∈(L.map λe=>e.1)->H z≠none:=λhz=>by
  obtain ⟨e,he,rfl⟩:=az.mp hz;rw[(h.ls e he).2.2];exact λz=>nomatch z
 have g1:=s _ _ h.gf;refine ⟨by rw[aJ,b7];rfl,h.nf,λe he=>?_,?_,λe he x hx=>?_,?_⟩
 ·rcases aH.mp he with he | he
  ·obtain ⟨a,b,c⟩:=h.ls e he;exact ⟨a,b,by rw[bD b];exact s _ _ c⟩
  ·rw[bW.mp he];exact ⟨s0.none hq,qf,by rw[bD qf];exact gq⟩
 ·rw[b7];exact pN h.nd λz=>old z hq
 ·have key:fZ K (λz=>(H0 z=none/\z≠fd)/\z∉(L++[(q,us)]).map λe=>e.1) H1 n (Fr 1 1) x:=by
   rcases aH.mp he with he | he
   ·obtain ⟨z,qs,e1,⟨e2,e3⟩,e4,e5⟩:=h.rows e he x hx;refine ⟨z,qs,e1,⟨e2,λhz=>?_⟩,e4.same s,e5⟩;rw[b7] at hz;rcases aH.mp hz with hz | hz
    ·exact e3 hz
    ·have hz:z=q:=bW.mp hz;obtain ⟨_,gg,_⟩:=e4;rw[hz,hq] at gg;cases gg
   ·rw[bW.mp he] at hx;refine (hr x hx).weak (λz hz=>⟨⟨s0.none hz.1,λy=>by rw[y] at hz;rw[h.gf] at hz;exact absurd hz.1 (λw=>nomatch w)⟩,λy=>?_⟩) (λ_ w=>w);rw[b7] at y;rcases aH.mp y with y | y
    ·exact old y hz.1
    ·exact hz.2 (bW.mp y)
  exact key.other g1 (λz=>z.1.2 rfl)
 ·rw[List.flatMap_append];refine dX.mpr ⟨h.rd,by simpa using nd,λx hx y hy z=>?_⟩;obtain ⟨e,he,hx⟩:=List.mem_flatMap.mp hx;obtain ⟨w,qs,e1,_,⟨_,gg,_⟩,_⟩:=h.rows e he x hx;obtain ⟨w',_,e1',⟨hw,_⟩,_⟩:=hr y (by simpa using hy);rw[<- z,e1] at e1';cases e1';rw[hw] at gg;cases gg
end
theorem G7 {F G:List jf->Rat} {r:Nat} {g:Nat->Rat} {c:Rat} (hF:∀ws:List jf,F (ws.map λv i=>g i*v i)=c*G ws):∀(post pre:List jf) (s:Rat),Cr F r (pre.map λv i=>g i*v i) (post.map λv i=>g i*v i) s=g r*c*Cr G r pre post s
 | [],_,_=>by show (0:Rat)=_*0;grind
 | v :: post,pre,s=>by
  have i1:=hF (pre++post);have i2:=G7 (r:=r) hF post (pre++[v]) (-s);simp only[b7,iM,List.map_nil,Cr] at i1 i2 ⊢;rw[i1,i2];grind
theorem Bv {g:Nat->Rat}:∀(rs:List Nat) (vs:List jf),ke rs (vs.map λv i=>g i*v i)=(rs.map g).foldr (λx y=>x*y) 1*ke rs vs
 | [],[]=>by show (1:Rat)=1*1;grind
 | [],_ :: _=>by show (0:Rat)=1*0;grind
 | r :: rs,vs=>by
  have:=G7 (r:=r) (F:=λws=>ke rs ws) (G:=λws=>ke rs ws) (c:=(rs.map g).foldr (λx y=>x*y) 1) (λws=>Bv rs ws) vs [] 1;exact this
theorem KA {g:Nat->Rat}:∀{rs:List Nat},(∀r∈rs,g r≠0)->(rs.map g).foldr (λx y=>x*y) 1≠0
 | [],_=>by show (1:Rat)≠0;decide
 | r :: rs,h=>by
  show g r*_≠0
  have h1:=h r (.head _);have h2:=KA λr' hr'=>h r' (.tail _ hr')
  intro z;rcases qR.mp z with z | z
  ·exact h1 z
  ·exact h2 z
section
variable {rows R X K0:LR9} {due L:List Rat} {n m M W D E W0 W1:Nat} {ps:List Nat}
theorem Mv (hw:∀xs∈rows,xs.length=n) (hW:1<=W) (h0:0 < M) (h3:∀xs∈rows,∀x∈xs,Tp M W x) (RR:cQ rows n R ps):∃pm:Nat->Nat,(∀i j,i < ps.length->j < ps.length->pm i=pm j->i=j)/\(∀t,t < ps.length->pm t < rows.length)/\ps.length<=rows.length/\ke (qG pm ps.length) (jH (λj i=>cU rows i (ps.getD j 0)) ps.length)≠0:=by
 have ent:=RY h0 h3;obtain ⟨ls,ps2,d,I⟩:=C1 hw hW (by rw[aj];exact ent) n (au _);obtain ⟨_,_,⟨pm,B⟩,E⟩:=I;rw[aj] at B E
 have RF:Iv rows.length n (cU rows) ps2.length (λj=>ps2.getD j 0) (λi c=>fF ls i c / d):=Iv.other (E.done λi hi c hc=>Bt (n:=n) (λzs hz=>by
  obtain ⟨xs,hx,rfl⟩:=az.mp hz;rw[vO];exact hw xs hx) hc) J8 J9
 obtain ⟨e1,e2,e3⟩:=RF.uniq RR.2.2 (λ_ hi=>fR.row hi) (λ_ hi=>fR.row hi);have km:=B.km;have dt:=B.det;have d0:=B.d0
 have e4:ke (qG pm ps2.length) ([]++jH (λj r=>fF (rows.map kK) r (ps2.getD j 0)) ps2.length)=ke (qG pm ps2.length) ([]++jH (λj i=>OU rows i*cU rows i (ps.getD j 0)) ps2.length):=JP [] λj hj r hr=>by
  obtain ⟨t,ht,rfl⟩:=nZ hr;rw[FL (B.rng t (by lia)),e2 j hj];rfl
 have e5:jH (λj i=>OU rows i*cU rows i (ps.getD j 0)) ps2.length=(jH (λj i=>cU rows i (ps.getD j 0)) ps2.length).map λv i=>OU rows i*v i:=(cw_map (τ:=λv i=>OU rows i*v i)).symm
 refine ⟨pm,λi j hi hj e=>B.inj i j (by lia) (by lia) e,λt ht=>B.rng t (by lia),by lia,?_⟩;rw[<- e1];intro z;apply d0;rw[dt];have e4:ke (qG pm ps2.length) (jH (λj r=>fF (rows.map kK) r (ps2.getD j 0)) ps2.length)=ke (qG pm ps2.length) (jH (λj i=>OU rows i*cU rows i (ps.getD j 0)) ps2.length):=e4;rw[e4,e5,Bv,z,js]
theorem Ur (hd:due.length=X.length) (hw:∀xs∈X,xs.length=n) (RR:cQ (fX X due) (n+1) R ps) (hn:n∉ps) (hi:i < X.length):due.getD i 0=bP ps.length λj=>cU R j n*cU X i (ps.getD j 0):=by
 obtain ⟨j1,j2⟩:=DD hd hw hi;have sp:=RR.2.2.span i (by rw[sN hd];exact hi);have:=RR.2.2.coef sp n;rw[<- j2,this];refine aZ λj hj=>?_
 have lo:=RR.2.2.low j hj;have ne:ps.getD j 0≠n:=λz=>hn (by rw[<- z];exact getD_in hj)
 rw[j1 _ (by lia)];exact eO _ _
theorem Pt (RR:cQ X (n+1) R ps) (hy:y∈mI R ps n):y=0\/∃j,j < ps.length/\y=cU R j n:=by
 obtain ⟨c,hc,rfl⟩:=bN hy;have lc:(mI R ps n).length=n:=l5;have e:(mI R ps n)[c]=(mI R ps n).getD c 0:=by rw[aa,af hc];rfl
 rw[e];by_cases hp:c∈ps
 ·obtain ⟨j,hj,ej⟩:=bN hp
  right
  refine ⟨j,hj,?_⟩;have ej':ps.getD j 0=c:=by rw[aa,af hj];exact ej
  have:=Nt (R:=R) (ps:=ps) (n:=n) (j:=ps.length) (c:=c) (by lia);unfold mI;rw[this,gJ hj λi hi ne=>if_neg λz=>?_,if_pos ej'];rcases cN i j with y | y
  ·have:=RR.2.2.inc i j y hj
   lia
  ·have:=RR.2.2.inc j i (by lia) hi
   lia
 ·exact .inl (Py hp)
theorem TB (hl:vs.length<=N) (h:∀v∈vs,∀r∈rs,Fr 1 Wx (v r)):∃z:Int,ke rs vs=(z:Rat)/\z.natAbs<=(N*Wx)^rs.length:=by
 have f:=By hl h;obtain ⟨z,ez⟩:=zX f;rw[ez] at f;exact ⟨z,ez,ye f⟩
end
def d6 (mv:LR9):Nat->List Rat->List Rat
 | 0,x=>x
 | t+1,x=>mJ mv (d6 mv t x)
section
variable {mv pt lk pus:LR9} {st pu go:List Rat} {n t T c:Nat}
theorem jO (h:st.length=mv.length):∀t,(d6 mv t st).length=mv.length
 | 0=>h
 | _+1=>rZ
theorem Fb {x y:List Rat} (h:x.length=y.length) (e:∀c,c < x.length->x.getD c 0=y.getD c 0):x=y:=by
 apply fu h;intro c h1 h2;have:=e c h1;rwa [aa,aa,af h1,af h2] at this
theorem UU (wm:∀xs∈mv,xs.length=mv.length) (h:st.length=mv.length) (hc:c < mv.length):(mJ mv st).getD c 0=bP mv.length λj=>cU mv c j*st.getD j 0:=by
 have e:(mJ mv st).getD c 0=cG mv[c] st:=by
  unfold mJ;rw[aa,aB,af hc];rfl
 have wc:=wm _ (aM hc);rw[e,dn (by lia),wc];refine aZ λj _=>?_
 unfold cU;rw[aa (l:=mv),af hc];rfl
theorem Oc (D:fk mv pt lk) (h:st.length=mv.length) (hp:pu.length=pt.length) (hc:c < mv.length):(iH mv pt st pu).getD c 0=bP mv.length (λj=>cU mv c j*st.getD j 0)+bP pt.length λi=>pu.getD i 0*cU pt i c:=by
 have wc:=D.mw _ (aM hc)
 have e:(iH mv pt st pu).getD c 0=cG (mv[c]++pt.map λxs=>xs.getD c 0) (st++pu):=by
  unfold iH;rw[aa,bu,af hc,vM hc];rfl
 rw[e,sZ (by lia),dn (by lia),dn (by rw[aj];lia),wc,aj];congr 1
 ·refine aZ λj _=>?_
  unfold cU;rw[aa (l:=mv),af hc];rfl
 ·refine aZ λi hi=>?_
  rw[eO];congr 1;unfold cU;rw[aa,aB,aa (l:=pt),af hi];rfl
theorem jX:∀t,(kry mv pt t).length=t*pt.length
 | 0=>by rw[Nat.zero_mul];rfl
 | t+1=>by
  show (pt++(kry mv pt t).map (mJ mv)).length=_
  rw[aw,aj,jX t,cZ,tU]
theorem Em (D:fk mv pt lk) (ls:st.length=mv.length):∀k,k<=pus.length->(∀xs∈pus,xs.length=pt.length)->∀c,c < mv.length->(tV mv pt st pus k).getD c 0=(d6 mv k st).getD c 0+bP (kry mv pt k).length λi=>((pus.take k).reverse.flatten).getD i 0*cU (kry mv pt k) i c:=by
 intro k
 induction k with
 | zero =>
  intro _ _ c _;show st.getD c 0=st.getD c 0+0
  grind
 | succ k ih =>
  intro hk hp c hc;have hk':k < pus.length:=hk;have e:=af hk';have hl:=hp _ (aM hk');have ls':=mM (pt:=pt) (pus:=pus) ls (k:=k) (by lia)
  have lf:((pus.take k).reverse.flatten).length=(kry mv pt k).length:=by
   rw[jX,HU (i:=pt.length) λxs hx=>hp xs (cO (kH.mp hx)),tG,cP,Pa (by lia)]
  rw[rf e,Oc D ls' hl hc]
  have er:(pus.take (k+1)).reverse.flatten=pus[k]++(pus.take k).reverse.flatten:=by
   rw[take_snoc e,List.reverse_append];simp
  have ek:kry mv pt (k+1)=pt++(kry mv pt k).map (mJ mv):=rfl;rw[er,ek,aw,aj,xy]
  have p1:(bP pt.length λi=>(pus[k]++(pus.take k).reverse.flatten).getD i 0*cU (pt++(kry mv pt k).map (mJ mv)) i c)=bP pt.length λi=>pus[k].getD i 0*cU pt i c:=aZ λi hi=>by
   rw[QT hi,aa,bY (by lia),aa]
  have p2:(bP (kry mv pt k).length λi=>(pus[k]++(pus.take k).reverse.flatten).getD (pt.length+i) 0*cU (pt++(kry mv pt k).map (mJ mv)) (pt.length+i) c)=bP mv.length λj=>cU mv c j*bP (kry mv pt k).length λi=>((pus.take k).reverse.flatten).getD i 0*cU (kry mv pt k) i j:=by
   have q1:∀i,i < (kry mv pt k).length->(pus[k]++(pus.take k).reverse.flatten).getD (pt.length+i) 0*cU (pt++(kry mv pt k).map (mJ mv)) (pt.length+i) c=bP mv.length λj=>cU mv c j*(((pus.take k).reverse.flatten).getD i 0*cU (kry mv pt k) i j):=λi hi=>by
    rw[TL,NW rfl D.mw (gR rfl D.pw k) hi,aa,bG (by lia),hl,Vr,<- aa,<- c9];exact aZ λj _=>by grind
   rw[aZ q1,iC];exact aZ λj _=>c9
  rw[p1,p2];have p3:(d6 mv (k+1) st).getD c 0=bP mv.length λj=>cU mv c j*(d6 mv k st).getD j 0:=UU D.mw (jO ls k) hc
  rw[p3]
  have p4:(bP mv.length λj=>cU mv c j*(tV mv pt st pus k).getD j 0)=(bP mv.length λj=>cU mv c j*(d6 mv k st).getD j 0)+bP mv.length λj=>cU mv c j*bP (kry mv pt k).length λi=>((pus.take k).reverse.flatten).getD i 0*cU (kry mv pt k) i j:=by
   rw[<- qZ];refine aZ λj hj=>?_
   rw[ih (by lia) hp j hj];grind
  rw[p4];grind
end
section
variable {mv pt lk pus R:LR9} {st pu go w pr L:List Rat} {n t T c u k:Nat} {ps:List Nat}
theorem Nh (D:fk mv pt lk) (ls:st.length=mv.length):tV mv pt st (List.replicate T (List.replicate pt.length 0)) T=d6 mv T st:=by
 have l1:=mM (pt:=pt) (pus:=List.replicate T (List.replicate pt.length 0)) ls (k:=T) (by rw[bK];exact au _);refine Fb (by rw[l1,jO ls]) λc hc=>?_
 rw[l1] at hc;rw[Em D ls T (by rw[bK];exact au _) (λxs hx=>by rw[(hZ.mp hx).2,bK]) c hc,dj λi _=>?_,nD]
 have z:(((List.replicate T (List.replicate pt.length (0:Rat))).take T).reverse.flatten).getD i 0=0:=by
  rw[aa];cases e:(((List.replicate T (List.replicate pt.length (0:Rat))).take T).reverse.flatten)[i]? with
  | none=>rfl
  | some y =>
   have:=ao e;obtain ⟨l,hl,hy⟩:=gY.mp this;have hl:=cO (kH.mp hl);rw[(hZ.mp hl).2] at hy;exact (hZ.mp hy).2
 rw[z,tT]
def jo (mv:LR9) (T:Nat) (st go:List Rat):List Rat:=List.zipWith (λx y=>x - y) go (d6 mv T st)
theorem Bm (ls:st.length=mv.length) (lg:go.length=mv.length):(jo mv T st go).length=mv.length:=by
 unfold jo;rw[bo,jO ls,lg,kG]
theorem MX {x y:List Rat} (h:x.length=y.length) (hc:c < x.length):(List.zipWith (λx y=>x - y) x y).getD c 0=x.getD c 0 - y.getD c 0:=by
 rw[aa,bu,aa (l:=x),aa (l:=y),af hc,af (by lia)];rfl
theorem KY:∀u,∃Z,kry mv pt (u+1)=kry mv pt u++Z
 | 0=>⟨pt++[],rfl⟩
 | u+1=>by
  obtain ⟨Z,e⟩:=KY u;refine ⟨Z.map (mJ mv),?_⟩;show pt++(kry mv pt (u+1)).map (mJ mv)=(pt++(kry mv pt u).map (mJ mv))++_
  rw[e,b7,cJ]
theorem Ht {u:Nat}:∀s,∃Z,kry mv pt (u+s)=kry mv pt u++Z
 | 0=>⟨[],by rw[lU];rfl⟩
 | s+1=>by
  obtain ⟨Z,e⟩:=Ht (u:=u) s;obtain ⟨Y,e'⟩:=KY (mv:=mv) (pt:=pt) (u+s);exact ⟨Z++Y,by rw[<- Nat.add_assoc,e',e,cJ]⟩
def Ic (w:List Rat) (u k:Nat):LR9:=(List.range u).map λt=>(w.drop (t*k)).take k
theorem BS:∀{u:Nat} {w:List Rat},w.length=u*k->(Ic w u k).flatten=w
 | 0,w,h=>by
  rw[Nat.zero_mul] at h;rw[List.length_eq_zero_iff.mp h];rfl
 | u+1,w,h=>by
  have e:Ic w (u+1) k=Ic (w.take (u*k)) u k++[w.drop (u*k)]:=by
   unfold Ic;rw[qT,b7];congr 1
   ·refine FI λt ht=>?_
    have ht:=kf.mp ht;have:t*k+k<=u*k:=by rw[<- cZ];exact aG _ ht
    rw[List.drop_take,List.take_take,Pa (by lia)]
   ·show [(w.drop (u*k)).take k]=_
    rw[aE (by rw[MS,h,cZ];lia)]
  rw[e,eT,BS (by rw[cP,h,cZ];lia)];simp
theorem Ve (h:w.length=u*k):∀xs∈Ic w u k,xs.length=k:=λxs hx=>by
 obtain ⟨t,ht,rfl⟩:=az.mp hx;have ht:=kf.mp ht;have:t*k+k<=u*k:=by rw[<- cZ];exact aG _ ht
 rw[cP,MS]
 lia
def Cz (w:List Rat) (T u k:Nat):LR9:=List.replicate (T - u) (List.replicate k 0)++(Ic w u k).reverse
theorem Qi (hu:u<=T):(Cz w T u k).length=T:=by
 unfold Cz Ic;rw[aw,bK,tG,aj,bR]
 lia
theorem Rl (h:w.length=u*k):∀xs∈Cz w T u k,xs.length=k:=λxs hx=>by
 rcases aH.mp hx with hx | hx
 ·rw[(hZ.mp hx).2,bK]
 ·exact Ve h xs (kH.mp hx)
theorem NA:(List.replicate T (List.replicate k (0:Rat))).flatten=List.replicate (T*k) 0:=by
 rw[List.flatten_replicate_replicate]
theorem JS (D:fk mv pt lk) (ls:st.length=mv.length) (lg:go.length=mv.length) (hu:u<=T) (hw:w.length=(kry mv pt u).length) (e:Vu (kry mv pt u) w mv.length=jo mv T st go):tV mv pt st (Cz w T u pt.length) T=go:=by
 have hw':w.length=u*pt.length:=by rw[hw,jX]
 have lp:=Qi (w:=w) (k:=pt.length) hu;have l1:=mM (pt:=pt) (pus:=Cz w T u pt.length) ls (k:=T) (by lia);refine Fb (by rw[l1,lg]) λc hc=>?_
 rw[l1] at hc;rw[Em D ls T (by lia) (Rl hw') c hc,aE (by lia)]
 have er:(Cz w T u pt.length).reverse.flatten=w++List.replicate ((T - u)*pt.length) 0:=by
  unfold Cz;rw[List.reverse_append,List.reverse_reverse,eT,BS hw',List.reverse_replicate,NA]
 obtain ⟨Z,eZ⟩:=Ht (mv:=mv) (pt:=pt) (u:=u) (T - u);rw[show u+(T - u)=T by lia] at eZ;rw[er,eZ,aw,xy]
 have p1:(bP (kry mv pt u).length λi=>(w++List.replicate ((T - u)*pt.length) 0).getD i 0*cU (kry mv pt u++Z) i c)=(jo mv T st go).getD c 0:=by
  rw[<- e,Kb hc,hw];exact aZ λi hi=>by rw[QT hi,aa,bY (by lia),aa]
 have p2:(bP Z.length λi=>(w++List.replicate ((T - u)*pt.length) 0).getD ((kry mv pt u).length+i) 0*cU (kry mv pt u++Z) ((kry mv pt u).length+i) c)=0:=dj λi _=>by
  have z:(w++List.replicate ((T - u)*pt.length) (0:Rat)).getD ((kry mv pt u).length+i) 0=0:=by
   rw[aa,bG (by lia),zF]
   split <;> rfl
  rw[z,tT]
 rw[p1,p2,nD];unfold jo;rw[MX (by rw[lg,jO ls]) (by lia)];grind
end
def EZ (l:Addr):Hp:=λq=>if q=l then some (.lst []) else none
theorem off_ne:EZ l l≠none:=by unfold EZ;rw[if_pos rfl];exact λz=>nomatch z
theorem N7 (h:q≠l):EZ l q=none:=by unfold EZ;rw[if_neg h]
def IQ (K:FG9) (l:Addr) (H:Hp) (R:LR9) (v:V):Prop:=∃q,v=V.ref q/\q≠l/\bB K (EZ l) H q R
section
variable {K:FG9} {H0 H H':Hp} {l p q:Addr} {R:LR9} {v:V} {mv pt:LR9} {u T:Nat}
theorem bB.off (h:bB K H0 H p R) (hl:H l=none):p≠l/\bB K (EZ l) H p R:=by
 obtain ⟨xs,g,r,n⟩:=h;refine ⟨λz=>(by rw[z,hl] at g;cases g),xs,g,Paired.imp' (λ_ _ ⟨q,a,b,c⟩=>⟨q,a,N7 λz=>?_,c⟩) r,n⟩;obtain ⟨_,gg,_⟩:=c;rw[z,hl] at gg;cases gg
theorem IQ.same (h:IQ K l H R v) (s:aI H H'):IQ K l H' R v:=by obtain ⟨q,a,b,c⟩:=h;exact ⟨q,a,b,c.same s⟩
theorem IQ.upd {ys zs:List V} (h:IQ K l H R v) (g:H l=some (.lst ys)):IQ K l (upd H l (.lst zs)) R v:=by obtain ⟨q,a,b,c⟩:=h;exact ⟨q,a,b,c.updL g off_ne b⟩
def Cs (mv pt:LR9) (u:Nat):List (LR9):=(List.range u).map λs=>pt.map (d6 mv s)
theorem zZ:Cs mv pt (u+1)=Cs mv pt u++[pt.map (d6 mv u)]:=by unfold Cs;rw[qT,b7];rfl
theorem jr:∀u,(Cs mv pt u).flatten=kry mv pt u
 | 0=>rfl
 | u+1=>by
  have e:Cs mv pt (u+1)=pt :: (Cs mv pt u).map (List.map (mJ mv)):=by
   unfold Cs;rw[List.range_succ_eq_map,iM,nH];congr 1
   ·exact mG pt
   ·rw[nH];refine FI λs _=>?_
    show pt.map (d6 mv (s+1))=(pt.map (d6 mv s)).map (mJ mv)
    rw[nH];rfl
  rw[e,dY,<- List.map_flatten,jr u];rfl
end
inductive F3 (K:FG9) (C:Addr) (vs:List V) (H:Hp) (Q:VK) (E9:XK):Prop
 | mk (x:Addr) (T:Nat) (H0:Hp) (mv pt lk:LR9):vs=[.ref x,.int T]->T<=100->jB K H0 H C x mv pt lk->fk mv pt lk->(∀r H',H r=none->aI H H'->bB K H H' r (List.replicate T (List.replicate pt.length 0))->Q (.ref r) H')->F3 K C vs H Q E9
inductive F9 (K:FG9) (C:Addr) (vs:List V) (H:Hp) (Q:VK) (E9:XK):Prop
 | mk (x s g:Addr) (T:Nat) (H0:Hp) (mv pt lk:LR9) (st go:List Rat):vs=[.ref x,.ref s,.ref g,.int T]->T<=99->jB K H0 H C x mv pt lk->fk mv pt lk->IM mv pt lk->cz K H s st->st.length=mv.length->cz K H g go->go.length=mv.length->CW mv pt st (List.replicate T (List.replicate pt.length 0))->(∀x∈go,kN x)->(∀r H',H r=none->aI H H'->cz K H' r (jo mv T st go)->Q (.ref r) H')->F9 K C vs H Q E9
structure CoF (mv pt:LR9) (L:List Rat) (D W0 E W1:Nat):Prop where
 d0:0 < D
 e0:0 < E
 w0:1<=W0
 w1:1<=W1
 tk:∀u,u<=mv.length->∀xs∈kry mv pt u,∀x∈xs,Tp D W0 x
 tl:∀x∈L,Tp E W1 x
 de:D*E<=2^215000
 sw:∃w,W0*E+W1*D+D*E<=2^w/\w<=215000/\(mv.length+1)*(w+4)<=445000
theorem Tp.up (h:Tp M W q) (k:Nat) (hx:W*k<=x):Tp (M*k) x q:=by
 obtain ⟨z,e,b⟩:=h;exact ⟨z*k,by rw[lS,aY,<- e,bc];grind,by rw[dZ,cX];exact ag (aG _ b) hx⟩
section
variable {mv pt lk rows R N Hd:LR9} {st pr go:List Rat} {n r t T a c W B:Nat} {ps psd:List Nat} {Pm Y Z:Nat->Nat->Rat} {d:Rat}
theorem KP:∀xs∈mh R ps n,xs.length=n:=λxs hx=>by
 obtain ⟨_,_,_,rfl⟩:=xW hx;exact vC
end
structure Vl (mv pt:LR9) (st pu:List Rat):Prop where
 f2:∀xs∈mv,FC xs st
 part:∀kk,∀x∈nextK mv pt st pu kk,kN x
 su:∀u∈pu,kN u
 sp:∀row∈pt,∀y∈row,kN y
 mul:∀u∈pu,∀row∈pt,∀y∈row,kN (u*y)
inductive F4 (K:FG9) (vs:List V) (H:Hp) (Q:VK) (E9:XK):Prop
 | mk (r s u:Addr) (H0:Hp) (mv pt lk:LR9) (st pu:List Rat):vs=[.ref r,.ref s,.ref u]->fW K H0 H r mv pt lk->fk mv pt lk->cz K H s st->cz K H u pu->st.length=mv.length->pu.length=pt.length->Vl mv pt st pu->(∀t H',H t=none->aI H H'->cz K H' t (iH mv pt st pu)->Q (.ref t) H')->F4 K vs H Q E9
structure Bd (mv pt:LR9) (M1 M2 V a1 a2 c:Nat):Prop where
 m1:0 < M1
 m2:0 < M2
 b1:M1<=2^a1
 b2:M2<=2^a2
 gm:GF M1 V mv
 gp:GF M2 V pt
 vc:(mv.length+4)*V<=2^c
section
variable {mv pt lk pus:LR9} {st pu go:List Rat} {M1 M2 V a1 a2 c N Np p t T ν:Nat}
theorem Bd.v1 (B:Bd mv pt M1 M2 V a1 a2 c):V<=2^c:=ag (dN _ (by lia)) B.vc
theorem sV (h0:0 < M) (h1:M<=2^a) (h2:W<=2^b) (hab:a+b<=199500) (h:Fr M W x):kN x:=by
 refine oY (Tp.of h (au _)) h0 (ag h1 (av (by decide) (by lia))) ?_;refine ag (ax h2 h1) ?_;rw[<- aF];exact av (by decide) (by lia)
theorem Bd.next (B:Bd mv pt M1 M2 V a1 a2 c) (D:fk mv pt lk) (ls:st.length=mv.length) (lu:pu.length=pt.length) (N0:0 < N) (dv:M2*Np∣M1*N) (hs:∀x∈st,Fr N (2^p) x) (hu:∀x∈pu,Fr Np (2^p) x) (hN:N<=2^ν) (sz:a1+ν+c+p<=195000) (sp2:a2+c<=195000):Vl mv pt st pu/\∀x∈iH mv pt st pu,Fr (M1*N) (2^(c+p)) x:=by
 have V1:=B.v1;have i4:=D.i4;have MN0:0 < M1*N:=a8 B.m1 N0;have MN:M1*N<=2^(a1+ν):=by rw[aF];exact ax B.b1 hN
 have Np0:0 < Np:=by
  rcases lY Np with z | z
  ·rw[z,LC] at dv;have:=Nat.eq_zero_of_zero_dvd dv
   lia
  ·exact z
 have NpMN:Np<=M1*N:=ag (dN _ B.m2) (lD MN0 dv)
 have one:∀u∈pu,∀row∈pt,∀y∈row,Fr (M1*N) (V*2^p) (u*y):=λu hu' row hr y hy=>by
  have:=(B.gp row hr y hy).mul (hu u hu');rw[eO];exact this.dvd dv
 have part:∀kk,kk<=pt.length->∀x∈nextK mv pt st pu kk,Fr (M1*N) (2^(c+p)) x:=λkk hkk x hx=>by
  obtain ⟨j,hj,e⟩:=bN hx;rw[jE] at hj;have e2:=A9 (mv:=mv) (pt:=pt) (st:=st) (pu:=pu) (k:=kk) hj;rw[aa,af (by rw[jE];exact hj)] at e2;have e3:x=cG (mv[j]++(pt.map λxs=>xs.getD j 0).take kk) (st++pu.take kk):=by rw[<- e,<- e2];rfl
  have wj:=D.mw _ (aM hj);rw[e3,sZ (by lia)];have f1:=Fr.dot (B.gm _ (aM hj)) hs;rw[wj] at f1
  have f2:Fr (M1*N) (4*(V*2^p)) (cG ((pt.map λxs=>xs.getD j 0).take kk) (pu.take kk)):=by
   have hc:∀y∈(pt.map λxs=>xs.getD j 0).take kk,Fr M2 V y:=λy hy=>by
    obtain ⟨xs,hxs,rfl⟩:=az.mp (cO hy);rw[aa];cases e:xs[j]? with
    | none=>exact Fr.zero
    | some z=>exact B.gp xs hxs z (ao e)
   have:=Fr.dot (ys:=pu.take kk) hc (λy hy=>hu y (cO hy));refine (this.dvd dv).mono (aG _ ?_);rw[cP,aj]
   lia
  refine (f1.add f2).mono ?_;rw[<- O4,aF,<- cR];exact aG _ B.vc
 have szb:∀{x:Rat},Fr (M1*N) (2^(c+p)) x->kN x:=λh=>sV MN0 MN (au _) (by lia) h
 have all:∀kk,∀x∈nextK mv pt st pu kk,Fr (M1*N) (2^(c+p)) x:=λkk x hx=>by
  rcases cN pt.length kk with z | z
  ·have e:nextK mv pt st pu kk=nextK mv pt st pu pt.length:=(tJ (by lia) (by lia)).trans (tJ (au _) (by lia)).symm;rw[e] at hx;exact part _ (au _) x hx
  ·exact part kk z x hx
 refine ⟨⟨λxs hx=>⟨a1,c,ν,p,⟨M1,V,B.m1,B.b1,V1,B.gm xs hx⟩,⟨N,2^p,N0,hN,au _,hs⟩,by lia⟩,λkk x hx=>szb (all kk x hx),λu hu'=>?_,λrow hr y hy=>?_,λu hu' row hr y hy=>szb ((one u hu' row hr y hy).mono (by rw[aF];exact aG _ V1))⟩,λx hx=>?_⟩
 ·exact sV Np0 (ag NpMN MN) (au _) (by lia) (hu u hu')
 ·exact sV B.m2 B.b2 V1 (by lia) (B.gp row hr y hy)
 ·rw[<- tJ (k:=pt.length) (au _) (by lia)] at hx;exact all _ x hx
end
section
variable {mv pt lk pus:LR9} {st pu go:List Rat} {M1 M2 V a1 a2 c N Np p t T ν k:Nat}
def RO (mv pt pus:LR9) (st:List Rat):Prop:=∃M1 M2 V a1 a2 c N Np p ν,Bd mv pt M1 M2 V a1 a2 c/\0 < N/\N<=2^ν/\M2*Np∣N/\(∀x∈st,Fr N (2^p) x)/\(∀xs∈pus,∀x∈xs,Fr Np (2^p) x)/\a1*(pus.length+1)+ν+c*(pus.length+1)+p<=195000/\a2+c<=195000
theorem iu (h:M<=2^a) (hN:N<=2^ν):M^t*N<=2^(a*t+ν):=by
 rw[aF,xt];exact ax (tD h t) hN
theorem Bd.states (B:Bd mv pt M1 M2 V a1 a2 c) (D:fk mv pt lk) (ls:st.length=mv.length) (wp:∀xs∈pus,xs.length=pt.length) (N0:0 < N) (hN:N<=2^ν) (dv:M2*Np∣N) (hs:∀x∈st,Fr N (2^p) x) (hu:∀xs∈pus,∀x∈xs,Fr Np (2^p) x) (sz:a1*(pus.length+1)+ν+c*(pus.length+1)+p<=195000) (sp2:a2+c<=195000):∀k,k<=pus.length->(∀x∈tV mv pt st pus k,Fr (M1^k*N) (2^(c*k+p)) x)/\∀pu,pus[k]?=some pu->Vl mv pt (tV mv pt st pus k) pu:=by
 have key:∀k,k<=pus.length->(∀x∈tV mv pt st pus k,Fr (M1^k*N) (2^(c*k+p)) x)->∀pu,pus[k]?=some pu->Vl mv pt (tV mv pt st pus k) pu/\∀x∈iH mv pt (tV mv pt st pus k) pu,Fr (M1*(M1^k*N)) (2^(c+(c*k+p))) x:=λk hk f pu hpu=>by
  have mp:=ao hpu;have kl:=(aK.mp hpu).1;have e1:a1*(k+1)<=a1*(pus.length+1):=aD _ (by lia);have e2:c*(k+1)<=c*(pus.length+1):=aD _ (by lia);rw[gX,O3] at e1 e2;refine B.next D (mM ls hk) (wp pu mp) (a8 (eB B.m1) N0) ?_ f (λx hx=>(hu pu mp x hx).mono (av (by decide) (Nat.le_add_left _ _))) (iu B.b1 hN) (by lia) sp2;exact iL dv (iL (c7 _ _) (c7 _ _))
 have fr:∀k,k<=pus.length->∀x∈tV mv pt st pus k,Fr (M1^k*N) (2^(c*k+p)) x:=by
  intro k
  induction k with
  | zero =>
   intro _ x hx;rw[Nat.pow_zero,qQ,LC,Nat.zero_add];exact hs x hx
  | succ k ih =>
   intro hk x hx;have e:=af (show k < pus.length by lia);rw[rf e] at hx;have:=(key k (by lia) (ih (by lia)) _ e).2 x hx;rw[<- cR,cg M1,<- d5,show c+(c*k+p)=c*(k+1)+p by rw[gX];lia] at this;exact this
 exact λk hk=>⟨fr k hk,λpu hpu=>(key k hk (fr k hk) pu hpu).1⟩
theorem RO.nx (h:RO mv pt pus st) (D:fk mv pt lk) (ls:st.length=mv.length) (wp:∀xs∈pus,xs.length=pt.length) (hk:k<=pus.length) (hpu:pus[k]?=some pu):Vl mv pt (tV mv pt st pus k) pu:=by
 obtain ⟨M1,M2,V,a1,a2,c,N,Np,p,ν,B,N0,hN,dv,hs,hu,sz,sp2⟩:=h;exact (B.states D ls wp N0 hN dv hs hu sz sp2 k hk).2 pu hpu
def V4 (mv:LR9) (st:List Rat) (T:Nat):Prop:=∃M1 V a1 c N p ν,0 < M1/\M1<=2^a1/\GF M1 V mv/\(mv.length+4)*V<=2^c/\0 < N/\N<=2^ν/\(∀x∈st,Fr N (2^p) x)/\a1*(T+1)+ν+c*(T+1)+p<=195000
theorem Jr (gm:GF M1 V mv) (wm:∀xs∈mv,xs.length=mv.length) (vc:(mv.length+4)*V<=2^c) (ls:st.length=mv.length) (hs:∀x∈st,Fr N (2^p) x):∀t,∀x∈d6 mv t st,Fr (M1^t*N) (2^(c*t+p)) x:=by
 intro t
 induction t with
 | zero =>
  intro x hx;rw[Nat.pow_zero,qQ,LC,Nat.zero_add];exact hs x hx
 | succ t ih =>
  intro x hx;obtain ⟨row,hr,rfl⟩:=az.mp (show x∈mv.map λxs=>cG xs (d6 mv t st) from hx);have f:=Fr.dot (gm row hr) ih;rw[<- cR,cg M1,<- d5] at f;refine f.mono ?_;rw[wm row hr,<- cR,show c*(t+1)+p=c+(c*t+p) by rw[gX];lia,aF 2 c];exact aG _ (ag (aG V (show mv.length<=mv.length+4 by lia)) vc)
theorem V4.fit (h:V4 mv st T) (wm:∀xs∈mv,xs.length=mv.length) (ls:st.length=mv.length) (ht:t<=T):(∀xs∈mv,FC xs (d6 mv t st))/\∀x∈d6 mv t st,kN x:=by
 obtain ⟨M1,V,a1,c,N,p,ν,m0,m1,gm,vc,N0,hN,hs,sz⟩:=h;have f:=Jr gm wm vc ls hs t;have V1:V<=2^c:=ag (dN _ (by lia)) vc;have e1:a1*t<=a1*T:=aD _ ht;have e2:c*t<=c*T:=aD _ ht;rw[gX,gX,O3,O3] at sz;exact ⟨λxs hx=>⟨a1,c,a1*t+ν,c*t+p,⟨M1,V,m0,m1,V1,gm xs hx⟩,⟨M1^t*N,2^(c*t+p),a8 (eB m0) N0,iu m1 hN,au _,f⟩,by lia⟩,λx hx=>sV (a8 (eB m0) N0) (iu m1 hN) (au _) (by lia) (f x hx)⟩
def T8 (mv pt:LR9) (T:Nat):Prop:=∃M1 M2 V a1 a2 c,Bd mv pt M1 M2 V a1 a2 c/\a1*(T+1)+a2+c*(T+2)<=195000
theorem T8.row (h:T8 mv pt T) (wm:∀xs∈mv,xs.length=mv.length) (wp:∀xs∈pt,xs.length=mv.length):∀xs∈pt,V4 mv xs T:=λxs hx=>by
 obtain ⟨M1,M2,V,a1,a2,c,B,sz⟩:=h;refine ⟨M1,V,a1,c,M2,c,a2,B.m1,B.b1,B.gm,B.vc,B.m2,B.b2,λx hx'=>(B.gp xs hx x hx').mono B.v1,?_⟩;rw[gX c T 2] at sz;rw[gX c T 1]
 lia
end
inductive Kq (K:FG9) (vs:List V) (H:Hp) (Q:VK) (E9:XK):Prop
 | mk (r s p:Addr) (H0 H1:Hp) (mv pt lk pus:LR9) (st:List Rat):vs=[.ref r,.ref s,.ref p]->fW K H0 H r mv pt lk->fk mv pt lk->cz K H s st->st.length=mv.length->bB K H1 H p pus->pus.length<=100->(∀xs∈pus,xs.length=pt.length)->RO mv pt pus st->(∀t H',H t=none->aI H H'->cz K H' t (tV mv pt st pus pus.length)->Q (.ref t) H')->Kq K vs H Q E9
inductive Dt (K:FG9) (vs:List V) (H:Hp) (Q:VK) (E9:XK):Prop
 | mk (r:Addr) (T:Nat) (H0:Hp) (mv pt lk:LR9):vs=[.ref r,.int T]->T<=20->fW K H0 H r mv pt lk->fk mv pt lk->T8 mv pt T->(∀q H',H q=none->aI H H'->bB K H H' q (kry mv pt T)->Q (.ref q) H')->Dt K vs H Q E9
section
variable {X:Cx}
theorem My (hc:X.calm=true):oV X (.builtin "max") (λxs H Q=>∃(p:Addr) (ns:List Int),xs=[.ref p]/\bF X.K H p (ns.map V.int)/\0 < ns.length/\∀M,M∈ns->(∀a,a∈ns->a<=M)->Q (.int M) H):=by
 intro pins s σ H xs us Q I r h;obtain ⟨p,ns,rfl,hp,hne,q⟩:=h;obtain ⟨u,rfl,ru⟩:=vals1 r;cases ru;obtain ⟨its,r2,pl,_⟩:=I.list hp;have hi:=intsAre_of r2;have hl:=pl.isList;obtain ⟨xs,e⟩:=hi.allInts.items
 have hns:ns=xs.toList.map (·.1):=by
  rw[<- hi.numsOf,<- nums_intItems,<- e]
 have hsz:0 < xs.size:=by
  have h3:=hne;rw[hns,aj,Array.length_toList] at h3;exact h3
 rw[e] at hl;refine max_intList (I.ok.hd hc) hl hsz λv h' tk hv hk=>?_
 obtain ⟨t,rfl⟩:=intItems_at hv;obtain ⟨h1,h2⟩:=argBest_gt (numAt xs) (xs.size - 1);refine ⟨.int _,H,I.kept hk,⟨_,rfl⟩,q _ ?_ λa ha=>?_⟩
 ·rw[hns,numAt_eq];exact getD_in (by rw[aj,Array.length_toList];lia)
 ·rw[hns] at ha;obtain ⟨j,hj,rfl⟩:=mem_getD ha;rw[aj,Array.length_toList] at hj;rw[<- numAt_eq];exact h2 j (by lia)
end
theorem Dw {α β:Type} {f:α->β}:∀{l1:List α} {l2:List β},Paired (λa b=>b=f a) l1 l2->l2=l1.map f
 | _,_,.nil=>rfl
 | _,_,.cons h r=>by rw[h,Dw r];rfl
def VY (mv pt:LR9) (T:Nat):Prop:=T<=12/\(T<=3\/((∀xs∈mv++pt,∀x∈xs,x.den<=9/\x.num.natAbs < 1000)/\(5 < mv.length->T<=mv.length)/\(3<=mv.length->mv.length<=5->T<=mv.length+1)))
def T5 (x:Rat):Int:=(x.den:Int)+(x.num.natAbs:Int) / 1000*9
theorem QM (h:T5 x<=9):x.den<=9/\x.num.natAbs < 1000:=by
 unfold T5 at h;have:=x.den_pos
 lia
inductive C6 (K:FG9) (vs:List V) (H:Hp) (Q:VK) (E9:XK):Prop
 | mk (b r:Addr) (H0:Hp) (mv pt lk:LR9):vs=[.ref b,.ref r]->gh H b->H0 b≠none->fW K H0 H r mv pt lk->fk mv pt lk->(∀xs∈mv++pt,∀x∈xs,kN x)->(∀(T:Nat) H',VY mv pt T->gh H' b->cI b H H'->Q (.int T) H')->C6 K vs H Q E9
inductive FY (K:FG9) (vs:List V) (H:Hp) (Q:VK) (E9:XK):Prop
 | mk (b r:Addr) (T w:Nat) (H0:Hp) (mv pt lk:LR9):vs=[.ref b,.ref r,.int T,.int w]->T<=100->1<=w->w<=1000->gh H b->H0 b≠none->fW K H0 H r mv pt lk->fk mv pt lk->(∀p pus H',H p=none->bB K H H' p pus->pus.length=T->(∀xs∈pus,xs.length=pt.length/\∀x∈xs,Dr (max w 6) x)->gh H' b->cI b H H'->Q (.ref p) H')->FY K vs H Q E9
section
variable {mv pt lk pus:LR9} {st pr go:List Rat} {T k:Nat}
theorem Mc (D:fk mv pt lk) (ls:st.length=mv.length) (lg:go.length=mv.length) (lp:pus.length=T) (wp:∀xs∈pus,xs.length=pt.length) (h1:tV mv pt st pus T=go) (lpr:pr.length=mv.length) (h2:∀xs∈kry mv pt T,cG xs pr=0):cG pr (jo mv T st go)=0:=by
 have ll:=Bm (T:=T) ls lg;rw[dn (by lia),lpr];have f:=Em (pus:=pus) (st:=st) D ls T (by lia) wp;rw[h1] at f;have wT:=gR (mv:=mv) rfl D.pw T
 have e1:(bP mv.length λc=>pr.getD c 0*(jo mv T st go).getD c 0)=bP (kry mv pt T).length λi=>((pus.take T).reverse.flatten).getD i 0*bP mv.length λc=>cU (kry mv pt T) i c*pr.getD c 0:=by
  have q:∀c,c < mv.length->pr.getD c 0*(jo mv T st go).getD c 0=bP (kry mv pt T).length λi=>((pus.take T).reverse.flatten).getD i 0*(cU (kry mv pt T) i c*pr.getD c 0):=λc hc=>by
   have e:(jo mv T st go).getD c 0=bP (kry mv pt T).length λi=>((pus.take T).reverse.flatten).getD i 0*cU (kry mv pt T) i c:=by
    unfold jo;rw[MX (by rw[lg,jO ls]) (by lia),f c hc];grind
   rw[e,<- c9];exact aZ λi _=>by grind
  rw[aZ q,iC];exact aZ λi _=>c9
 rw[e1];refine dj λi hi=>?_
 have w1:=wT _ (aM hi);have:=h2 _ (aM hi);rw[dn (by lia),w1] at this
 have q:(bP mv.length λc=>cU (kry mv pt T) i c*pr.getD c 0)=0:=by
  refine Eq.trans (aZ λc _=>?_) this;unfold cU;rw[aa (l:=kry mv pt T),af hi];rfl
 rw[q,js]
end
structure CtF (mv pt:LR9) (T:Nat) (st go:List Rat) (D W0 E W1:Nat):Prop where
 cf:CW mv pt st (List.replicate T (List.replicate pt.length 0))
 sg:∀x∈go,kN x
 co:CoF mv pt (jo mv T st go) D W0 E W1
 en:∀(pus:LR9) (q:Nat),0 < q->q<=(16*W0)^mv.length->pus.length=T->(∀xs∈pus,∀x∈xs,Tp (E*q) (D*(mv.length*(W1*(16*W0)^mv.length))) x)->RO mv pt pus st
def DrP (pt:LR9) (T w:Nat) (pus:LR9):Prop:=pus.length=T/\∀xs∈pus,xs.length=pt.length/\∀x∈xs,Dr (max w 6) x
theorem Ob (ws vs:List V) (M1 M2 M3:Nat):∃μ:V->Nat,(∀x∈ws,μ x=M2)/\(∀x∈vs,x∉ws->μ x=M3)/\(∀x,x∉ws->x∉vs->μ x=M1)/\∀x,μ x=M1\/μ x=M2\/μ x=M3:=by
 classical
 refine ⟨λx=>if x∈ws then M2 else if x∈vs then M3 else M1,λx h=>if_pos h,λx h h'=>?_,λx h h'=>?_,λx=>?_⟩
 ·show (if x∈ws then M2 else if x∈vs then M3 else M1)=M3
  rw[if_neg h',if_pos h]
 ·show (if x∈ws then M2 else if x∈vs then M3 else M1)=M1
  rw[if_neg h,if_neg h']
 ·show (if x∈ws then M2 else if x∈vs then M3 else M1)=M1\/(if x∈ws then M2 else if x∈vs then M3 else M1)=M2\/(if x∈ws then M2 else if x∈vs then M3 else M1)=M3
  by_cases h:x∈ws
  ·rw[if_pos h];exact .inr (.inl rfl)
  ·rw[if_neg h];by_cases h':x∈vs
   ·rw[if_pos h'];exact .inr (.inr rfl)
   ·rw[if_neg h'];exact .inl rfl
theorem j7.apart {K:FG9} (h:j7 K A H n C m p l b q0 us ws vs):(∀x∈us,x∉ws/\x∉vs)/\∀x∈vs,x∉ws:=by
 obtain ⟨n1,n2,n3⟩:=dX.mp h.nd;obtain ⟨n4,n5,n6⟩:=dX.mp n1;exact ⟨λx hx=>⟨λz=>n3 x (aH.mpr (.inl hx)) x z rfl,λz=>n6 x hx x z rfl⟩,λx hx z=>n3 x (aH.mpr (.inr hx)) x z rfl⟩
theorem j7.fr3 {K:FG9} (h:j7 K A H n (λ_=>Dr (2^c)) m p l b q0 us ws vs):∃M1 M2 M3,0 < M1/\0 < M2/\0 < M3/\M1<=2^(c*(n*n))/\M2<=2^(c*(ws.length*n))/\M3<=2^(c*(vs.length*n))/\(∀x∈us,fZ K A H n (Fr M1 (2^c)) x)/\(∀x∈ws,fZ K A H n (Fr M2 (2^c)) x)/\∀x∈vs,fZ K A H n (Fr M3 (2^c)) x:=by
 have one:∀l:List V,(∀x∈l,x∈us++vs++ws)->∃M,0 < M/\M<=2^(c*(l.length*n))/\∀x∈l,fZ K A H n (Fr M (2^c)) x:=λl hl=>by
  obtain ⟨ra,pa,la,ha⟩:=vo λx hx=>h.row x (hl x hx)
  obtain ⟨M,m0,m1,m2⟩:=PJ (c:=c) (n:=n) (rows:=ra) ha;exact ⟨M,m0,by rw[la] at m1;exact m1,Jm pa λqs hq=>⟨(ha qs hq).1,m2 qs hq⟩⟩
 obtain ⟨M1,a1,a2,a3⟩:=one us λx hx=>by simp [hx]
 obtain ⟨M2,b1,b2,b3⟩:=one ws λx hx=>by simp [hx]
 obtain ⟨M3,c1,c2,c3⟩:=one vs λx hx=>by simp [hx]
 rw[h.lm] at a2;exact ⟨M1,M2,M3,a1,b1,c1,a2,b2,c2,a3,b3,c3⟩
inductive Dj (K:FG9) (xs:List V) (H:Hp) (Q:VK) (E9:XK):Prop
 | mk (b m p l q0:Addr) (n V1:Nat) (μ:V->Nat) (A:Addr->Prop) (us ws vs:List V):xs=[.ref b,.ref m,.ref p,.ref l]->Iz A m p l b q0->j7 K A H n (λx=>Fr (μ x) V1) m p l b q0 us ws vs->n<=8->ws.length<=4->vs.length<=4->(∀x,0 < μ x)->(∀x,μ x<=2^800)->(∃M,∀x,x∉ws->x∉vs->μ x=M)->V1<=2^20->(∀q,H q=none->A q)->(∀r us' H',H' r=some (.tup [.ref m,.ref p,.ref l])->j7 K A H' n (λx=>Fr (μ x) (9^3*V1)) m p l b q0 us' ws vs->jg A b m H H'->Q (.ref r) H')->Dj K xs H Q E9
def VZ (n i o w c:Nat) (mv pt lk:LR9):Prop:=∃M1 M2 M3 V1:Nat,0 < M1/\0 < M2/\0 < M3/\GF M1 V1 mv/\GF M2 V1 pt/\GF M3 V1 lk/\((w<=9/\M1=2520/\M2=2520/\M3=2520/\V1=9^3*9)\/(9 < w/\M1<=2^(c*(n*n))/\M2<=2^(c*(i*n))/\M3<=2^(c*(o*n))/\V1=9^3*2^c))
inductive C9 (K:FG9) (vs:List V) (H:Hp) (Q:VK) (E9:XK):Prop
 | mk (b:Addr) (n i o w c:Nat):vs=[.ref b,.int n,.int i,.int o,.int w]->gh H b->n<=8->i<=4->o<=4->1<=w->w<=1000000->max w 6<=2^c->c<=20->c*((n+i+o)*n)<=800->(∀r mv pt lk H',fW K H H' r mv pt lk->mv.length=n->pt.length=i->lk.length=o->fk mv pt lk->VZ n i o w c mv pt lk->gh H' b->cI b H H'->Q (.ref r) H')->C9 K vs H Q E9
def Rg (mv pt:LR9) (w:Nat):Prop:=(w<=9/\Bd mv pt 1 1 (9^3) 0 0 14)\/(w<=9/\mv.length<=5/\Bd mv pt 2520 2520 (9^3*9) 12 12 16)\/(w=1000/\mv.length<=2/\∃M1 M2,Bd mv pt M1 M2 (9^3*2^20) 80 160 33)
def Pp (K:FG9):Sp:=λvs H Q _=>∃b:Addr,vs=[.ref b]/\gh H b /\
 ∀t r (w a c:Nat) mv pt lk H',H' t=some (.tup [.ref r,.int w])->fW K H H' r mv pt lk->fk mv pt lk->IM mv pt lk->vI mv pt a c->Rg mv pt w->1<=w->w<=1000->gh H' b->cI b H H'->Q (.ref t) H'
theorem JI {M V:Nat} (h:GF M V l) (k:Nat):GF (k*M) V l:=λxs hx x hx'=>(h xs hx x hx').scaleL k
theorem VZ.n {n i o w c:Nat} (h:VZ n i o w c mv pt lk):PtF n i o w c mv pt lk:=by
 obtain ⟨M1,M2,M3,V1,a1,a2,a3,f1,f2,f3,hc⟩:=h;rcases hc with ⟨w9,rfl,rfl,rfl,e⟩ | ⟨w9,e1,e2,e3,e⟩
 ·exact ⟨2520,V1,by decide,f1,f2,f3,.inl ⟨w9,rfl,e⟩⟩
 ·refine ⟨M1*M2*M3,V1,a8 (a8 a1 a2) a3,?_,?_,?_,.inr ⟨w9,?_,e⟩⟩
  ·have:=JI f1 (M2*M3);rwa [show M2*M3*M1=M1*M2*M3 by rw[cg (M2*M3),cR]] at this
  ·have:=JI f2 (M1*M3);rwa [show M1*M3*M2=M1*M2*M3 by rw[cR,cg M3,cR]] at this
  ·exact JI f3 (M1*M2)
  ·refine ag (ax (ax e1 e2) e3) ?_;rw[<- aF,<- aF,show c*((n+i+o)*n)=c*(n*n)+c*(i*n)+c*(o*n) by rw[O4,O4,gX,gX]];exact au _
def zd (n a1 a2:Nat):Nat:=a1*(n - 1)+a2
def zw (n a1 a2 c:Nat):Nat:=zd n a1 a2+c*n
def zq (n a1 a2 c:Nat):Nat:=n*(4+zw n a1 a2 c)
def ze (a1 a2 T b:Nat):Nat:=a1*T+a2+b
def zu (a1 a2 c T b g:Nat):Nat:=ze a1 a2 T b+(c*T+g+1)
abbrev ZS (n a1 a2 c T b g:Nat):Prop:=ze a1 a2 T b<=75000/\c*T+g<=90000/\zw n a1 a2 c+ze a1 a2 T b+zu a1 a2 c T b g+zd n a1 a2+2<=215000/\(n+1)*(zw n a1 a2 c+ze a1 a2 T b+zu a1 a2 c T b g+zd n a1 a2+6)<=445000/\a1*(T+1)+(a2+ze a1 a2 T b+zq n a1 a2 c)+c*(T+1)+(zd n a1 a2+3+zu a1 a2 c T b g+zq n a1 a2 c)<=195000/\a2+c<=195000/\a1*(T+1)+a2+c*(T+2)<=195000
abbrev ZP (n a1 a2 c T b g:Nat):Prop:=2*(zq n a1 a2 c+5+zu a1 a2 c T b g)+zu a1 a2 c T b g<=196500/\2*(zq n a1 a2 c+5+zu a1 a2 c T b g)+(a1*T+a2+c*(T+1))<=196500
theorem MZ {n n' a1 a2 c T T' b b' g:Nat} (hn:n<=n') (hT:T<=T') (hb:b<=b'):zd n a1 a2<=zd n' a1 a2/\zw n a1 a2 c<=zw n' a1 a2 c/\zq n a1 a2 c<=zq n' a1 a2 c/\ze a1 a2 T b<=ze a1 a2 T' b'/\zu a1 a2 c T b g<=zu a1 a2 c T' b' g/\a1*T<=a1*T'/\c*T<=c*T'/\a1*(T+1)<=a1*(T'+1)/\c*(T+1)<=c*(T'+1)/\c*(T+2)<=c*(T'+2):=by
 have e1:a1*(n - 1)<=a1*(n' - 1):=aD _ (by lia);have e2:c*n<=c*n':=aD _ hn;have e3:a1*T<=a1*T':=aD _ hT;have e4:c*T<=c*T':=aD _ hT;have w:zw n a1 a2 c<=zw n' a1 a2 c:=by unfold zw zd;lia
 have q:zq n a1 a2 c<=zq n' a1 a2 c:=ax hn (by lia);refine ⟨by unfold zd;lia,w,q,by unfold ze;lia,by unfold zu ze;lia,e3,e4,aD _ (by lia),aD _ (by lia),aD _ (by lia)⟩
theorem mK {n n' a1 a2 c T T' b b' g:Nat} (hn:n<=n') (hT:T<=T') (hb:b<=b') (h:ZS n' a1 a2 c T' b' g):ZS n a1 a2 c T b g:=by
 obtain ⟨h1,h2,h3,h4,h5,h6,h7⟩:=h;obtain ⟨m1,m2,m3,m4,m5,m6,m7,m8,m9,m10⟩:=MZ (a1:=a1) (a2:=a2) (c:=c) (g:=g) hn hT hb;refine ⟨by lia,by lia,by lia,ag (ax (by lia) (by lia)) h4,by lia,h6,by lia⟩
theorem zN {n n' a1 a2 c T T' b b' g:Nat} (hn:n<=n') (hT:T<=T') (hb:b<=b') (h:ZP n' a1 a2 c T' b' g):ZP n a1 a2 c T b g:=by
 obtain ⟨h1,h2⟩:=h;obtain ⟨m1,m2,m3,m4,m5,m6,m7,m8,m9,m10⟩:=MZ (a1:=a1) (a2:=a2) (c:=c) (g:=g) hn hT hb;exact ⟨by lia,by lia⟩
section
variable {mv pt lk pus:LR9} {st pu go pr:List Rat} {M1 M2 V a1 a2 c B b g p t T w:Nat}
theorem Bd.kry (X:Bd mv pt M1 M2 V a1 a2 c) (D:fk mv pt lk):∀t,∀xs∈kry mv pt t,∀x∈xs,Fr (M1^(t - 1)*M2) (2^(c*t)) x:=by
 intro t
 induction t with
 | zero=>intro xs hx;exact nomatch hx
 | succ t ih =>
  intro xs hx x hx';rcases aH.mp (show xs∈pt++(L2.kry mv pt t).map (mJ mv) from hx) with hx | hx
  ·refine Fr.up (X.gp xs hx x hx') (c7 _ _) (ag X.v1 (av (by decide) ?_));exact dy _ (by lia)
  ·obtain ⟨ys,hy,rfl⟩:=az.mp hx;obtain ⟨row,hr,rfl⟩:=az.mp (show x∈mv.map λzs=>cG zs ys from hx');rcases t with _ | t
   ·exact nomatch hy
   have f:=Fr.dot (X.gm row hr) (ih ys hy);rw[show M1*(M1^(t+1 - 1)*M2)=M1^(t+1+1 - 1)*M2 by rw[<- cR,show t+1 - 1=t by lia,show t+1+1 - 1=t+1 by lia,d5,cg M1]] at f;refine f.mono ?_;rw[D.mw row hr,<- cR,show c*(t+1+1)=c+c*(t+1) by rw[gX c (t+1)];lia,aF 2 c];exact aG _ (ag (aG V (show mv.length<=mv.length+4 by lia)) X.vc)
theorem Bd.lack (X:Bd mv pt M1 M2 V a1 a2 c) (D:fk mv pt lk) (ls:st.length=mv.length) (hs:∀x∈st,Fr B (2^g) x) (hg:∀x∈go,Fr (M1^T*(M2*B)) (2^(c*T+g)) x):∀x∈jo mv T st go,Fr (M1^T*(M2*B)) (2^(c*T+g+1)) x:=λx hx=>by
 unfold jo at hx;obtain ⟨j,hj,e⟩:=bN hx;rw[dC] at e;rw[<- e,show 2^(c*T+g+1)=2^(c*T+g)+2^(c*T+g) by rw[d5];lia];exact (hg _ (aM _)).sub ((Jr X.gm D.mw X.vc ls hs T _ (aM _)).dvd (Nat.mul_dvd_mul_left _ (c7 _ _)))
theorem Bd.end (X:Bd mv pt M1 M2 V a1 a2 c) (D:fk mv pt lk) (ls:st.length=mv.length) (lp:pus.length=T) (wp:∀xs∈pus,xs.length=pt.length) (b0:0 < B) (b1:B<=2^b) (hs:∀x∈st,Fr B (2^g) x) (hu:∀xs∈pus,∀x∈xs,Fr B (2^g) x) (Z:ZS mv.length a1 a2 c T b g):RO mv pt pus st/\∀k,k<=T->∀x∈tV mv pt st pus k,Fr (M1^k*(M2*B)) (2^(c*k+g)) x:=by
 obtain ⟨h1,h2,h3,h4,h5,h6,h7⟩:=Z;have n0:0 < M2*B:=a8 X.m2 b0;have hN:M2*B<=2^(a2+b):=by rw[aF];exact ax X.b2 b1
 have hs':∀x∈st,Fr (M2*B) (2^g) x:=λx hx=>(hs x hx).scaleL _
 have sz:a1*(pus.length+1)+(a2+b)+c*(pus.length+1)+g<=195000:=by
  rw[lp];unfold zu ze at h5
  lia
 exact ⟨⟨M1,M2,V,a1,a2,c,M2*B,B,g,a2+b,X,n0,hN,Ad _,hs',hu,sz,h6⟩,λk hk=>(X.states D ls wp n0 hN (Ad _) hs' hu sz h6 k (by lia)).1⟩
theorem GC (h:xs∈List.replicate T (List.replicate i (0:Rat))) (hx:x∈xs):x=0:=by
 rw[lF h] at hx;exact lF hx
theorem Bd.ctf (X:Bd mv pt M1 M2 V a1 a2 c) (D:fk mv pt lk) (ls:st.length=mv.length) (b0:0 < B) (b1:B<=2^b) (hs:∀x∈st,Fr B (2^g) x) (hg:∀x∈go,Fr (M1^T*(M2*B)) (2^(c*T+g)) x) (Z:ZS mv.length a1 a2 c T b g):CtF mv pt T st go (M1^(mv.length - 1)*M2) (2^(c*mv.length)*(M1^(mv.length - 1)*M2)) (M1^T*(M2*B)) (2^(c*T+g+1)*(M1^T*(M2*B))):=by
 have Z':=Z;obtain ⟨h1,h2,h3,h4,h5,h6,h7⟩:=Z;have n0:0 < M2*B:=a8 X.m2 b0;have hN:M2*B<=2^(a2+b):=by rw[aF];exact ax X.b2 b1
 obtain ⟨Dd,eD⟩:∃d,M1^(mv.length - 1)*M2=d:=⟨_,rfl⟩;obtain ⟨E,eE⟩:∃d,M1^T*(M2*B)=d:=⟨_,rfl⟩;have D0:0 < Dd:=by rw[<- eD];exact a8 (eB X.m1) X.m2
 have E0:0 < E:=by rw[<- eE];exact a8 (eB X.m1) n0
 have dD:Dd<=2^zd mv.length a1 a2:=by rw[<- eD];exact iu X.b1 X.b2
 have dE:E<=2^ze a1 a2 T b:=by
  rw[<- eE,show ze a1 a2 T b=a1*T+(a2+b) by unfold ze;lia];exact iu X.b1 hN
 have dW:2^(c*mv.length)*Dd<=2^zw mv.length a1 a2 c:=by
  rw[show zw mv.length a1 a2 c=c*mv.length+zd mv.length a1 a2 by unfold zw;lia,aF];exact aD _ dD
 have dU:2^(c*T+g+1)*E<=2^zu a1 a2 c T b g:=by
  rw[show zu a1 a2 c T b g=c*T+g+1+ze a1 a2 T b by unfold zu;lia,aF 2 (c*T+g+1)];exact aD _ dE
 have hl:=X.lack D ls hs hg;have hg':=hg;rw[eD,eE];rw[eE] at hl hg'
 have q2:(16*(2^(c*mv.length)*Dd))^mv.length<=2^zq mv.length a1 a2 c:=by
  have:16*(2^(c*mv.length)*Dd)<=2^(4+zw mv.length a1 a2 c):=by rw[aF];exact aD _ dW
  refine ag (tD this _) ?_;rw[<- xt,cg];exact au _
 refine ⟨λk hk=>?_,λx hx=>sV E0 dE (au _) (by lia) (hg' x hx),⟨D0,E0,a8 (eB (by decide)) D0,a8 (eB (by decide)) E0,λu hu xs hx x hx'=>?_,λx hx=>Tp.of (hl x hx) (au _),?_,?_⟩,λqs q q0 hq lq hp=>?_⟩
 ·have wz:∀xs∈List.replicate T (List.replicate pt.length (0:Rat)),xs.length=pt.length:=λxs hx=>by rw[lF hx,bK]
  have lz:(List.replicate T (List.replicate pt.length (0:Rat))).length=T:=bK ..;rw[lz] at hk;obtain ⟨_,f⟩:=X.end D ls lz wz b0 b1 hs (λxs hx x hx'=>by rw[GC hx hx'];exact Fr.zero) Z';have m1:a1*k<=a1*T:=aD _ hk;have m2:c*k<=c*T:=aD _ hk;exact ⟨M1^k*(M2*B),2^(c*k+g),a8 (eB X.m1) n0,ag (iu X.b1 hN) (av (by decide) (by unfold ze at h1;lia)),av (by decide) (by lia),f k hk,λxs hx x hx'=>by rw[GC hx hx'];exact Fr.zero⟩
 ·have f:=X.kry D u xs hx x hx';rw[<- eD];refine Tp.of (Fr.up (M':=M1^(mv.length - 1)*M2) (V':=2^(c*mv.length)) f (Nat.mul_dvd_mul_right (Nat.pow_dvd_pow _ (by lia)) _) (av (by decide) (aD _ hu))) (au _)
 ·refine ag (ax dD dE) ?_;rw[<- aF];exact av (by decide) (by lia)
 ·refine ⟨zw mv.length a1 a2 c+ze a1 a2 T b+zu a1 a2 c T b g+zd mv.length a1 a2+2,?_,h3,h4⟩
  have S:∀{x y k j:Nat},x<=2^k->y<=2^j->k+j<=zw mv.length a1 a2 c+ze a1 a2 T b+zu a1 a2 c T b g+zd mv.length a1 a2->x*y<=2^(zw mv.length a1 a2 c+ze a1 a2 T b+zu a1 a2 c T b g+zd mv.length a1 a2):=λhx hy hk=>by
   refine ag (ax hx hy) ?_;rw[<- aF];exact av (by decide) hk
  have s1:=S dW dE (by lia);have s2:=S dU dD (by lia);have s3:=S dD dE (by lia);rw[aF _ _ 2];generalize 2^(zw mv.length a1 a2 c+ze a1 a2 T b+zu a1 a2 c T b g+zd mv.length a1 a2)=P at s1 s2 s3 ⊢
  lia
 ·have Np0:0 < E*q:=a8 E0 q0;have hq':q<=2^zq mv.length a1 a2 c:=ag hq q2
  have hP:Dd*(mv.length*(2^(c*T+g+1)*E*(16*(2^(c*mv.length)*Dd))^mv.length))<=2^(zd mv.length a1 a2+3+zu a1 a2 c T b g+zq mv.length a1 a2 c):=by
   have n3:mv.length<=2^3:=D.n8;refine ag (ax dD (ax n3 (ax dU q2))) ?_;rw[<- aF,<- aF,<- aF];exact av (by decide) (by lia)
  refine ⟨M1,M2,V,a1,a2,c,M2*(E*q),E*q,zd mv.length a1 a2+3+zu a1 a2 c T b g+zq mv.length a1 a2 c,a2+ze a1 a2 T b+zq mv.length a1 a2 c,X,a8 X.m2 Np0,?_,Ad _,λx hx=>?_,λxs hx x hx'=>((hp xs hx x hx').fr Np0).mono hP,?_,h6⟩
  ·rw[aF,aF,cR];exact ax X.b2 (ax dE hq')
  ·refine Fr.up (hs x hx) ?_ (av (by decide) (by unfold zu;lia));rw[<- eE];exact iL (iL (iL (c7 _ M2) (c7 _ (M1^T))) (kd _ q)) (c7 _ _)
  ·rw[lq];exact h5
theorem VC (h:ZS n a1 a2 c T b (g+1)):ZS n a1 a2 c T b g:=by
 obtain ⟨h1,h2,h3,h4,h5,h6,h7⟩:=h;have e:zu a1 a2 c T b g<=zu a1 a2 c T b (g+1):=by unfold zu;lia
 exact ⟨h1,by lia,by lia,ag (aD _ (by lia)) h4,by lia,h6,h7⟩
structure Us (mv pt:LR9) (w T M1 M2 V a1 a2 c b1 b2:Nat):Prop where
 bd:Bd mv pt M1 M2 V a1 a2 c
 z1:ZS mv.length a1 a2 c T b1 23
 zp:ZP mv.length a1 a2 c T b1 23
 z2:ZS mv.length a1 a2 c T b2 23
 dr:∀l:List Rat,(∀x∈l,Dr (max w 6) x)->∃B,0 < B/\6∣B/\(∀x∈l,Fr B (2^22) x)/\(l.length<=2*mv.length+T*pt.length->B<=2^b1)/\(l.length<=2*mv.length+2*(T*pt.length)->B<=2^b2)
end
section
variable {mv pt lk pus pus':LR9} {st st' pu go pr:List Rat} {M1 M2 V a1 a2 c B b1 b2 g p t T w:Nat}
theorem Us.pair (U:Us mv pt w T M1 M2 V a1 a2 c b1 b2) (ls:st.length=mv.length) (hs:∀x∈st,Dr (max w 6) x) (hp:DrP pt T w pus):∃B,0 < B/\B<=2^b1/\6∣B/\(∀x∈st,Fr B (2^22) x)/\∀xs∈pus,∀x∈xs,Fr B (2^22) x:=by
 obtain ⟨B,h0,h6,h,h1,_⟩:=U.dr (st++pus.flatten) λx hx=>by
  rcases aH.mp hx with hx | hx
  ·exact hs x hx
  ·obtain ⟨xs,m1,m2⟩:=gY.mp hx;exact (hp.2 xs m1).2 x m2
 refine ⟨B,h0,h1 ?_,h6,λx hx=>h x (iJ _ hx),λxs hx x hx'=>h x (bO _ (gY.mpr ⟨xs,hx,hx'⟩))⟩;rw[aw,yf λxs hx=>(hp.2 xs hx).1,hp.1,ls]
 lia
theorem Td {l:List Rat} (h:∀x∈l,Fr B (2^22) x):∀x∈l,Fr B (2^23) x:=λx hx=>(h x hx).mono (by decide)
end
def rW (ws col:List Rat):List Rat:=List.zipWith (λv w=>v / w) col ws
def vL (ws:List Rat) (T:Nat):List Rat:=(List.replicate T ws).flatten
def oK (rows:LR9) (ws:List Rat) (n:Nat):LR9:=nL ((cp rows n).map (rW ws)) rows n
def gF (rows:LR9) (ws x y:List Rat):Rat:=bP rows.length λk=>cG (rows.getD k []) x*cG (rows.getD k []) y / ws.getD k 0
def Vh (rows:LR9) (ws:List Rat) (n:Nat) (g x:List Rat):Prop:=x.length=n/\g.length=n/\∀y:List Rat,y.length=n->cG y g=gF rows ws y x
section
variable {rows more R:LR9} {ws wm x x1 x2 x' y g g1 g2:List Rat} {n:Nat} {ps:List Nat} {c:Rat}
theorem Kh {f:Nat->Rat}:∀k,(∀j,j < k->0<=f j)->0<=bP k f
 | 0,_=>Rat.le_refl
 | k+1,h=>by
  have h1:=Kh k λj hj=>h j (by lia)
  have h2:=h k (by lia);have e:bP (k+1) f=bP k f+f k:=rfl;rw[e];grind
theorem Kg {f:Nat->Rat}:∀k,(∀j,j < k->0<=f j)->bP k f=0->∀j,j < k->f j=0
 | 0,_,_,j,hj=>absurd hj (di _)
 | k+1,h,z,j,hj=>by
  have h1:=Kh k λj hj=>h j (by lia)
  have h2:=h k (by lia);have e:bP (k+1) f=bP k f+f k:=rfl;rw[e] at z;by_cases q:j=k
  ·rw[q];grind
  ·exact Kg k (λj hj=>h j (by lia)) (by grind) j (by lia)
theorem Sq (hw:∀xs∈rows,xs.length=n) (hk:k < rows.length):(rows.getD k []).length=n:=by
 rw[aa,af hk];exact hw _ (aM _)
theorem JQ (hw:∀xs∈rows,xs.length=n) (hk:k < rows.length) (lx:x.length=n):cG (rows.getD k []) x=bP n λb=>cU rows k b*x.getD b 0:=by
 have l:=Sq hw hk;rw[dn (by rw[l,lx]),l];rfl
theorem KW (hw:∀xs∈rows,xs.length=n) (lw:ws.length=rows.length) (lx:x.length=n) (ha:a < n):∃row,(oK rows ws n)[a]?=some row/\row.length=n/\cG row x=bP rows.length λk=>cU rows k a*(cG (rows.getD k []) x / ws.getD k 0):=by
 refine ⟨(cp rows n).map λys=>cG ys (rW ws (rows.map λxs=>xs.getD a 0)),?_,by rw[aj,cL],?_⟩
 ·unfold oK nL;rw[aB,aB,vM ha];rfl
 ·have e1:∀b,b < n->((cp rows n).map λys=>cG ys (rW ws (rows.map λxs=>xs.getD a 0))).getD b 0=bP rows.length λk=>cU rows k b*(cU rows k a / ws.getD k 0):=λb hb=>by
   rw[aa,aB,vM hb];show cG (rows.map λxs=>xs.getD b 0) _=_
   have l1:(rW ws (rows.map λxs=>xs.getD a 0)).length=rows.length:=by
    unfold rW;rw[bo,aj,lw,kG]
   rw[dn (by rw[aj,l1]),aj];refine aZ λk hk=>?_
   have at_:∀j,(rows.map λxs=>xs.getD j 0).getD k 0=cU rows k j:=λj=>by
    rw[getD_map hk];unfold cU;rw[aa (l:=rows),af hk];rfl
   rw[at_];congr 1;unfold rW;rw[aa,bu,aB,af hk,af (show k < ws.length by lia),aa (l:=ws),af (show k < ws.length by lia)];show (rows[k].getD a 0) / ws[k]=_
   unfold cU;rw[aa (l:=rows),af hk];rfl
  rw[dn (by rw[aj,cL,lx]),aj,cL,aZ λb hb=>by rw[e1 b hb]]
  have e2:(λb=>(bP rows.length λk=>cU rows k b*(cU rows k a / ws.getD k 0))*x.getD b 0)=λb=>bP rows.length λk=>(cU rows k a / ws.getD k 0)*(cU rows k b*x.getD b 0):=by
   funext b;rw[eO,<- c9];exact aZ λk _=>by grind
  rw[e2,iC];refine aZ λk hk=>?_
  rw[c9,<- JQ hw hk lx,gW,gW];grind
theorem Gh (hw:∀xs∈rows,xs.length=n) (lg:g.length=n) (lx:x.length=n) (h:∀a,a < n->g.getD a 0=bP rows.length λk=>cU rows k a*(cG (rows.getD k []) x / ws.getD k 0)):Vh rows ws n g x:=by
 refine ⟨lx,lg,λy ly=>?_⟩;rw[dn (by rw[ly,lg]),ly,aZ λa ha=>by rw[h a ha,<- c9]];rw[iC];refine aZ λk hk=>?_
 have e:(λa=>y.getD a 0*(cU rows k a*(cG (rows.getD k []) x / ws.getD k 0)))=λa=>(cG (rows.getD k []) x / ws.getD k 0)*(cU rows k a*y.getD a 0):=by
  funext a;grind
 rw[e,c9,<- JQ hw hk ly,gW,gW];grind
theorem tO:(oK rows ws n).length=n:=by unfold oK nL;rw[aj,aj,cL]
theorem wo:∀xs∈oK rows ws n,xs.length=n:=λxs hx=>by
 unfold oK nL at hx;obtain ⟨ys,_,rfl⟩:=az.mp hx;rw[aj,cL]
theorem So (hw:∀xs∈rows,xs.length=n) (lw:ws.length=rows.length) (lg:g.length=n) (RR:cQ (fX (oK rows ws n) g) (n+1) R ps) (hn:n∉ps):Vh rows ws n g (mI R ps n):=by
 have lx:(mI R ps n).length=n:=l5;refine Gh hw lg lx λa ha=>?_
 obtain ⟨row,er,_,ed⟩:=KW hw lw lx ha;rw[<- ed];exact (Sm (by rw[tO,lg]) wo RR hn er).symm
theorem Sj {a w:Rat} (h:0 < w):0<=a*a / w:=by
 have h1:0<=a*a:=by
  rcases Rat.le_total (a:=0) (b:=a) with z | z
  ·exact RQ z z
  ·have:0<=-a:=by grind
   have:=RQ this this;grind
 rw[gW];exact RQ h1 (Rat.le_of_lt (Rat.inv_pos.mpr h))
theorem Q3 (hp:∀w∈ws,0 < w) (hk:k < ws.length):0 < ws.getD k 0:=by
 rw[aa,af hk];exact hp _ (aM _)
theorem Pz (hw:∀xs∈rows,xs.length=n) (lw:ws.length=rows.length) (hp:∀w∈ws,0 < w) (lg:g.length=n) (hz:∀pr:List Rat,pr.length=n->(∀xs∈rows,cG xs pr=0)->cG pr g=0) (RR:cQ (fX (oK rows ws n) g) (n+1) R ps):n∉ps:=λhn=>by
 obtain ⟨w,h1,h2⟩:=Nr (by rw[tO,lg]) wo RR hn;rw[tO] at h1 h2;obtain ⟨pr,epr⟩:∃pr:List Rat,pr=(List.range n).map w:=⟨_,rfl⟩;have lp:pr.length=n:=by rw[epr,aj,bR]
 have ap:∀i,i < n->pr.getD i 0=w i:=λi hi=>by rw[epr,aa,aB,cM hi];rfl
 have d1:cG pr g=1:=by
  rw[dn (by rw[lp,lg]),lp,<- h2];exact aZ λi hi=>by rw[ap i hi]
 have f0:gF rows ws pr pr=0:=by
  have e1:∀i,i < n->bP n (λb=>cU (oK rows ws n) i b*pr.getD b 0)=bP rows.length λk=>cU rows k i*(cG (rows.getD k []) pr / ws.getD k 0):=λi hi=>by
   obtain ⟨row,er,lr,ed⟩:=KW hw lw lp hi;rw[<- ed,dn (by rw[lr,lp]),lr];refine aZ λb _=>?_
   unfold cU;rw[aa (l:=oK rows ws n),er];rfl
  have e2:bP n (λi=>w i*bP n (λb=>cU (oK rows ws n) i b*pr.getD b 0))=0:=by
   have e:(λi=>w i*bP n (λb=>cU (oK rows ws n) i b*pr.getD b 0))=λi=>bP n λb=>pr.getD b 0*(w i*cU (oK rows ws n) i b):=by
    funext i;rw[<- c9];exact aZ λb _=>by grind
   rw[e,iC];exact dj λb hb=>by rw[c9,h1 b hb,js]
  have S:Vh rows ws n ((List.range n).map λi=>bP rows.length λk=>cU rows k i*(cG (rows.getD k []) pr / ws.getD k 0)) pr:=Gh hw (by rw[aj,bR]) lp λa ha=>by
   rw[aa,aB,cM ha];rfl
  rw[<- S.2.2 pr lp,dn (by rw[lp,S.2.1]),lp];refine Eq.trans (aZ λi hi=>?_) e2;rw[e1 i hi,ap i hi];congr 1;rw[aa,aB,cM hi];rfl
 have z:=Kg rows.length (λk hk=>Sj (Q3 hp (by lia))) f0
 have zz:∀xs∈rows,cG xs pr=0:=λxs hx=>by
  obtain ⟨k,hk,e⟩:=bN hx;have:=z k hk;have wp:=Q3 hp (k:=k) (by lia);rw[aa,af hk,zE,e,gW] at this
  have wi:(ws.getD k 0)⁻¹≠0:=λq=>by
   have:=Rat.inv_pos.mpr wp;grind
  rcases qR.mp this with q | q
  ·rcases qR.mp q with q | q <;> exact q
  ·exact absurd q wi
 rw[hz pr lp zz] at d1;exact absurd d1 (by decide)
end
section
variable {K0:LR9} {n D wl:Nat}
theorem Pu (hK:∀xs∈K0,xs.length=n) (n15:n<=15) (D0:0 < D) (tk:∀xs∈K0,∀x∈xs,Tp D (2^wl) x) (F:∃w,FE (cp K0 n) K0.length w):∃q:Nat,0 < q/\q<=2^((wl+4)*n)/\∀(E W1:Nat) (L:List Rat) (R:LR9) (ps:List Nat),0 < E->L.length=n->(∀x∈L,Tp E W1 x)->cQ (fX (cp K0 n) L) (K0.length+1) R ps->K0.length∉ps->∀y∈mI R ps K0.length,Tp (E*q) (D*(n*(W1*2^((wl+4)*n - wl)))) y:=by
 have lt:(cp K0 n).length=n:=cL;have wt:∀xs∈cp K0 n,xs.length=K0.length:=iB
 have tfn:∀i,i < n->∀j,cU (cp K0 n) i j=cU K0 j i:=λi hi j=>by
  unfold cU;rw[aa (l:=cp K0 n),vM hi];show (K0.map λxs=>xs.getD i 0).getD j 0=_
  rw[aa,aB,aa (l:=K0)];cases K0[j]? with
  | none=>show (0:Rat)=([]:List Rat).getD i 0;rw[aa];rfl
  | some xs=>rfl
 have tkf:∀j i,Tp D (2^wl) (cU K0 j i):=λj i=>by
  unfold cU;rw[aa (l:=K0)];by_cases hj:j < K0.length
  ·rw[af hj];exact mL (tk _ (aM hj)) i
  ·rw[bg (by lia)];show Tp D (2^wl) (([]:List Rat).getD i 0)
   exact mL (by intro x z;cases z) i
 have w0:1<=2^wl:=cA;obtain ⟨w,F⟩:=F;obtain ⟨R0,ps,_,_,SR⟩:=Du wt F;have RR0:=SR.rr
 obtain ⟨pm,pinj,plt,kn,dne⟩:=Mv wt w0 D0 (QF λi hi c=>by
  rw[tfn i (by lia)];exact tkf c i) RR0
 rw[lt] at plt kn;have pl:∀j,j < ps.length->ps.getD j 0 < K0.length:=λj hj=>RR0.2.2.low j hj
 have Dne:(D:Rat)≠0:=λz=>by
  have:((D:Int):Rat)=0:=by rw[bc];exact z
  have:=uy this
  lia
 have rlt:∀r∈qG pm ps.length,r < n:=λr hr=>by
  obtain ⟨t,ht,rfl⟩:=nZ hr;exact plt t ht
 obtain ⟨v,ev⟩:∃v:Nat->jf,v=λj i=>(D:Rat)*cU K0 (ps.getD j 0) i:=⟨_,rfl⟩
 have vint:∀j r,Fr 1 (2^wl) (v j r):=λj r=>by
  obtain ⟨z,ee,b⟩:=tkf (ps.getD j 0) r;rw[ev];show Fr 1 (2^wl) ((D:Rat)*_)
  rw[eO,ee];exact Fr.int b
 have den:ke (qG pm ps.length) (jH v ps.length)≠0:=by
  have e1:ke (qG pm ps.length) ([]++jH v ps.length)=ke (qG pm ps.length) ([]++jH (λj i=>(D:Rat)*cU (cp K0 n) i (ps.getD j 0)) ps.length):=JP [] λj hj r hr=>by
   rw[tfn r (rlt r hr),ev]
  have e2:jH (λj i=>(D:Rat)*cU (cp K0 n) i (ps.getD j 0)) ps.length=(jH (λj i=>cU (cp K0 n) i (ps.getD j 0)) ps.length).map λv i=>(λ_=>(D:Rat)) i*v i:=(cw_map (τ:=λv i=>(D:Rat)*v i)).symm
  have e1:ke (qG pm ps.length) (jH v ps.length)=ke (qG pm ps.length) (jH (λj i=>(D:Rat)*cU (cp K0 n) i (ps.getD j 0)) ps.length):=e1;rw[e1,e2,Bv];intro z;rcases qR.mp z with z | z
  ·exact KA (g:=λ_=>(D:Rat)) (λ_ _=>Dne) z
  ·exact dne z
 have p16:(16*2^wl:Nat)=2^(wl+4):=by rw[aF];lia
 obtain ⟨q,eq,bq⟩:=TB (N:=16) (Wx:=2^wl) (rs:=qG pm ps.length) (vs:=jH v ps.length) (by rw[cw_len];lia) λw hw r _=>by
  obtain ⟨t,_,rfl⟩:=cw_in hw;exact vint t r
 rw[vq,p16,<- xt] at bq;have up:(wl+4)*ps.length<=(wl+4)*n:=aD _ kn;have q0:q≠0:=λz=>den (by rw[eq,z];rfl)
 refine ⟨q.natAbs,by lia,ag bq (av (by decide) up),λE W1 L R ps' E0 hL tl RR hn y hy=>?_⟩;have hd:L.length=(cp K0 n).length:=by rw[lt];exact hL
 obtain ⟨_,rfl⟩:=(OQ hd wt RR hn).same RR0;have tlf:∀i,Tp E W1 (L.getD i 0):=λi=>mL tl i
 have Ene:(E:Rat)≠0:=λz=>by
  have:((E:Int):Rat)=0:=by rw[bc];exact z
  have:=uy this
  lia
 rcases Pt RR hy with rfl | ⟨i,hi,rfl⟩
 ·exact ⟨0,by rw[tT];rfl,bC _⟩
 ·have hW:∀r∈qG pm ps'.length,(E:Rat)*L.getD r 0=bP ps'.length λj=>((E:Rat)*cU R j K0.length / D)*v j r:=λr hr=>by
   have hr:=rlt r hr;rw[Ur hd wt RR hn (i:=r) (by rw[lt];exact hr),<- c9];refine aZ λj hj=>?_
   rw[tfn r hr,ev]
   dsimp only
   grind
  have cr:=DH (v:=v) (c:=λj=>(E:Rat)*cU R j K0.length / D) (W:=λr=>(E:Rat)*L.getD r 0) hi hW
  have ex:ke (qG pm ps'.length) (Fh v i ps'.length++(λr=>(E:Rat)*L.getD r 0) :: jH v i)=bP ps'.length λt=>((E:Rat)*L.getD (pm t) 0)*ke (qG pm ps'.length) (Fh v i ps'.length++(λr=>if r=pm t then 1 else 0) :: jH v i):=Bu (W:=λ_=>0) (v:=λt r=>if r=pm t then 1 else 0) (c:=λt=>(E:Rat)*L.getD (pm t) 0) _ _ (λr hr=>by
   obtain ⟨t,ht,rfl⟩:=nZ hr;rw[gJ ht λj hj ne=>by rw[if_neg λz=>ne (pinj j t hj ht z.symm),js],if_pos rfl,Ed])
  have hlen:∀x:jf,(Fh v i ps'.length++x :: jH v i).length<=16:=λx=>by
   have:=congrArg List.length (cw_split (v:=v) hi);rw[aw,bQ,cw_len] at this;rw[aw,bQ]
   lia
  have unit:∀t,Fr 1 (2^((wl+4)*n - wl)) (ke (qG pm ps'.length) (Fh v i ps'.length++(λr=>if r=pm t then 1 else 0) :: jH v i)):=λt=>by
   have mk:∀(u:jf) (W:Nat),1<=W->W=2^wl->(∀r,Fr 1 W (u r))->Fr 1 (2^((wl+4)*ps'.length)) (ke (qG pm ps'.length) (Fh v i ps'.length++u :: jH v i)):=λu W _ eW hu=>by
    subst eW
    have f2:=By (W:=2^wl) (N:=16) (rs:=qG pm ps'.length) (hlen u) λw hw r _=>by
     rcases aH.mp hw with hw | hw
     ·obtain ⟨s,_,rfl⟩:=Lm hw;exact vint s r
     ·rcases aL.mp hw with rfl | hw
      ·exact hu r
      ·obtain ⟨s,_,rfl⟩:=cw_in hw;exact vint s r
    rw[vq,p16,<- xt] at f2;exact f2
   have big:=mk (λr=>((2^wl:Nat):Rat)*(if r=pm t then 1 else 0)) _ w0 rfl λr=>by
    split
    ·rw[Ed,<- bc];exact Fr.int (by rw[cX];exact au _)
    ·rw[js];exact Fr.zero
   have sm:=mk (λr=>if r=pm t then 1 else 0) _ w0 rfl λr=>by
    split
    ·exact Fr.one w0
    ·exact Fr.zero
   have lin:ke (qG pm ps'.length) (Fh v i ps'.length++(λr=>((2^wl:Nat):Rat)*(if r=pm t then 1 else 0)) :: jH v i)=0+((2^wl:Nat):Rat)*ke (qG pm ps'.length) (Fh v i ps'.length++(λr=>if r=pm t then 1 else 0) :: jH v i):=Bu (W:=λ_=>0) (v:=λ_ r=>if r=pm t then 1 else 0) (c:=λ_=>((2^wl:Nat):Rat)) (Fh v i ps'.length) (jH v i) (k:=1) λr _=>by
    show _=0+_
    rw[LA]
   rw[LA] at lin;obtain ⟨z,ez⟩:=zX sm;rw[ez] at lin ⊢;rw[lin,<- bc,<- aY] at big;have b1:=ye big;rw[dZ,cX] at b1;refine Fr.int ?_;have g0:wl<=(wl+4)*ps'.length:=ag (by lia) (dy _ (show 0 < ps'.length by lia));have e1:2^((wl+4)*ps'.length)=2^wl*2^((wl+4)*ps'.length - wl):=by rw[<- aF];congr 1;lia
   rw[e1] at b1;exact ag (Nat.le_of_mul_le_mul_left b1 w0) (av (by decide) (by lia))
  have nf:Fr 1 (n*(W1*2^((wl+4)*n - wl))) (ke (qG pm ps'.length) (Fh v i ps'.length++(λr=>(E:Rat)*L.getD r 0) :: jH v i)):=by
   rw[ex];refine (OA (V:=W1*2^((wl+4)*n - wl)) λt ht=>?_).mono (aG _ kn);obtain ⟨z,ee,b⟩:=tlf (pm t)
   have f1:Fr 1 W1 ((E:Rat)*L.getD (pm t) 0):=by
    rw[eO,ee];exact Fr.int b
   have:=f1.mul (unit t);rwa [qQ] at this
  obtain ⟨z,ez⟩:=zX nf;rw[ez] at nf cr;have bz:=ye nf;rw[eq] at cr
  have key:cU R i K0.length*((E:Rat)*(q:Rat))=(D:Rat)*(z:Rat):=by
   rw[cr];grind
  have kq:(((E*q.natAbs:Nat):Rat))=(E:Rat)*((q.natAbs:Nat):Rat):=lS ..;rcases Int.natAbs_eq q with h | h
  ·have hq:((q.natAbs:Nat):Rat)=(q:Rat):=by rw[<- bc,<- h]
   refine ⟨D*z,?_,by rw[dZ,cX];exact aD _ bz⟩;rw[kq,hq,key,aY,bc]
  ·have hq:((q.natAbs:Nat):Rat)=-(q:Rat):=by rw[<- bc,<- eY];congr 1;lia
   refine ⟨-(D*z),?_,by rw[uV,dZ,cX];exact aD _ bz⟩;rw[kq,hq,eY,aY,bc,<- key];grind
end
def T6 (K:FG9) (a:Addr) (n:Nat):It :=
 ⟨λi H=>i < n/\∃xs x,bF K H a xs/\xs[n - 1 - i]?=some x,λi H x H'=>H'=H/\∀xs,bF K H a xs->xs[n - 1 - i]?=some x,λi _=>n<=i⟩
theorem M8 {P:Program} {w:World} {K:FG9} {tg:Expr} (a it:Addr) (n:Nat):Turn P w K tg (T6 K a n) [it] it (λi h=>i<=n/\h.IsRevIter it a ((n:Int) - 1 - (i:Nat))) where
 mem:=by simp
 obj:=λi h st b hb=>by
  have e:b=it:=by simpa using hb
  subst e;obtain ⟨_,o,e,c,d⟩:=st;exact ⟨o,e,λv z=>by rw[d] at z;cases z⟩
 keep:=λi h h' st k=>⟨st.1,st.2.at λo e=>k it (by simp) o e⟩
 item:=by
  intro X hP hw hK hc i pins s σ H E I hf st hg;subst hP hw hK;obtain ⟨hi,xs,x,hq,hx⟩:=hg;obtain ⟨its,rv,p,hz⟩:=I.list hq;obtain ⟨u,hu,ru⟩:=rv.get hx;obtain ⟨f0,f1,f2,f3,f4,f5⟩:=hf it (by simp);have st2:=st.2;rw[show (n:Int) - 1 - (i:Nat)=((n - 1 - i:Nat):Int) by lia] at st2;refine wpAny_pyNext_rev_item st2 p.isList (x:=u) (by simpa using hu) λh' st' sb=>?_
  have I1:Inv X pins σ H { s with heap:=h' }:=I.turned (t':=s.toks) (λb o hb e=>(sb.2 b hb).trans e) f0 f1 f3 f4 f5;rw[show ((n - 1 - i:Nat):Int) - 1=(n:Int) - 1 - ((i+1:Nat):Int) by lia] at st';obtain ⟨o,e,c,d⟩:=id st';exact ⟨u,rfl,Ov (s:={ s with heap:=h' }) e c d (by decide) ⟨x,H,I1,ru,⟨rfl,λys hy=>by rw[I.list_inj hy hq];exact hx⟩,⟨hi,st'⟩,λb hb=>(hf b hb).1⟩⟩
 done:=by
  intro X hP hw hK hc i pins s σ H E I hf st hg;subst hP hw hK;obtain ⟨f0,f1,f2,f3,f4,f5⟩:=hf it (by simp);have st2:=st.2;have:n<=i:=hg;have:=st.1;rw[show (n:Int) - 1 - (i:Nat)=-1 by lia] at st2;exact wpAny_pyNext_rev_end (I.ok.hd hc) st2 λh' eb=>⟨rfl,I.turned (t':=s.toks) (λb o hb e=>eb b o hb e) f0 f1 f3 f4 f5⟩
 self:=λ_ _ _ _ _ st h=>wpAny_pyIter_revIter st.2 h
def Tt (K:FG9) (ta:TA):TI:=λσ H R=>ta σ H λvs H1=>∃l xs,vs=[.ref l]/\bF K H1 l xs/\R (T6 K l xs.length) H1
theorem NQ {X:Cx} {e1:Expr} {ta:TA} {p pos:Pos} {tg:Expr} (hg:Gl X "reversed") (hm:X.mg "reversed"=none) (ha:PA X [e1] ta) (hs:starEach [e1] X.env=[(false,eval e1 X.env)]:=by rfl) :
  PI X tg (.Call (.Name "reversed" p) [e1] [] pos) (Tt X.K ta):=by
 intro pins s σ H R I h;refine Call_ (kZ I hg hm boot_reversed (PyProof.Rows.callWith_type1 (iq (ha pos pins s σ H _ I h) λus s1 ⟨vs,H1,I1,r1,q1⟩=>?_) hs rfl));obtain ⟨l,xs,e,qx,q⟩:=q1;subst e;obtain ⟨u,rfl,ru⟩:=vals1 r1;cases ru;obtain ⟨us,rx,px,_⟩:=I1.list qx;have lx:=rx.length;have kp:∀b o,s1.heap.get? b=some o->(s1.heap.push (revObj l ((us.toArray.size:Int) - 1))).get? b=some o:=λb o e=>Heap.get?_push_of_some _ e
 have st:(s1.heap.push (revObj l ((us.toArray.size:Int) - 1))).IsRevIter s1.heap.objs.size l ((us.toArray.size:Int) - 1):=⟨_,Heap.get?_push_size _ rfl,rfl,rfl⟩;refine call_reversed_list px.isList (wpAny_pyIter_revIter st ?_);have I2:Inv X pins σ H1 { s1 with heap:=s1.heap.push (revObj l ((us.toArray.size:Int) - 1)) }:=I1.kept (t':=s1.toks) kp;refine ⟨_,[s1.heap.objs.size],_,_,H1,rfl,I2,M8 l s1.heap.objs.size xs.length,⟨bC _,?_⟩,λb hb=>?_,q⟩
 ·have e:((us.toArray.size:Int) - 1)=(xs.length:Int) - 1 - ((0:Nat):Int):=by rw[aX];lia
  rw[<- e];exact st
 ·have hb':b=s1.heap.objs.size:=by simpa using hb
  subst hb';exact I1.fpOk (au _) (I1.hok.fresh (au _))
theorem QG {K:FG9} {g:TG} {tb:TS} {D:Ends} (Pv:Nat->St->Hp->Prop) (h0:Pv 0 σ H) (hl:∀i σ H,i<=xs.length->Pv i σ H->bF K H a xs)
  (hs:∀i x σ H,i < xs.length->xs[xs.length - 1 - i]?=some x->Pv i σ H->g x σ H λσ2 H2=>tb { D with nx:=Pv (i+1),ct:=Pv (i+1),bk:=D.nx } σ2 H2) (hd:∀σ H,Pv xs.length σ H->D.nx σ H) :
  ∃W:Nat->Nat->St->Hp->Prop,(∃m,W 0 m σ H)/\∀i m σ H,W i m σ H →
   ((T6 K a xs.length).stop i H/\D.nx σ H)\/((T6 K a xs.length).go i H/\∃N:St->Hp->Prop,(∀σ' H',N σ' H'->∃m',m' < m/\W (i+1) m' σ' H')/\∀x H',(T6 K a xs.length).yld i H x H'->g x σ H' λσ2 H2=>tb { D with nx:=N,ct:=N,bk:=D.nx } σ2 H2):=by
 refine ⟨λi m σ H=>m=xs.length - i/\i<=xs.length/\Pv i σ H,⟨xs.length,by simp,bC _,h0⟩,?_⟩;rintro i m σ H ⟨rfl,hi,p⟩;have q:=hl i σ H hi p;by_cases hlt:i < xs.length
 ·refine .inr ⟨⟨hlt,xs,xs[xs.length - 1 - i]'(by lia),q,af _⟩,Pv (i+1),λσ' H' p'=>⟨xs.length - (i+1),by lia,rfl,hlt,p'⟩,λx H' y=>?_⟩;obtain ⟨rfl,e⟩:=y;exact hs i x σ _ hlt (e xs q) p
 ·have e:i=xs.length:=by lia
  subst e;exact .inl ⟨au _,hd σ H p⟩
def FF (xs:List Rat):Prop:=∃M,Iw M (xs.map nm)
theorem vn (h0:0 < M) (h1:M<=2^215000) (h2:W<=2^215000) (h:∀x∈xs,Tp M W x):FF xs:=by
 refine ⟨M,by lia,?_,λy hy=>?_⟩
 ·show ((M:Nat):Int).natAbs < 2^220000
  rw[cX];exact bp h1 (df (by decide) (by decide))
 ·obtain ⟨x,hx',rfl⟩:=az.mp hy;have t:=h x hx';refine ⟨jk x,uW t,?_⟩;obtain ⟨s,e,b⟩:=Ah t h0 (jk x) (LD _) (uW t);have e2:(((nm x).1:Int):Rat)=(s:Rat):=by rw[<- e];exact jR x
  rw[dI.mp e2];exact bp (ag b h2) (df (by decide) (by decide))
inductive Kr (K:FG9) (vs:List V) (H:Hp) (Q:VK) (E9:XK):Prop
 | mk (p q:Addr) (xs ys:List Rat):vs=[.ref p,.ref q]->cz K H p xs->cz K H q ys->ys.length=xs.length->xs.length<=1000->FF xs/\FF ys->(∀r H',aI H H'->b6 K H' (cG xs ys) (.ref r)->Q (.ref r) H')->Kr K vs H Q E9
inductive Kp (K:FG9) (vs:List V) (H:Hp) (Q:VK) (E9:XK):Prop
 | mk (p q:Addr) (H0:Hp) (rows:LR9) (ys:List Rat):vs=[.ref p,.ref q]->bB K H0 H p rows->cz K H q ys->rows.length<=1000->ys.length<=1000->((∀xs∈rows,xs.length=ys.length/\(FF xs/\FF ys)))->(∀r H',H r=none->aI H H'->cz K H' r (rows.map λxs=>cG xs ys)->Q (.ref r) H')->Kp K vs H Q E9
inductive Ar (K:FG9) (vs:List V) (H:Hp) (Q:VK) (E9:XK):Prop
 | mk (p q:Addr) (w:Nat) (H0 H1:Hp) (one other:LR9):vs=[.ref p,.ref q,.int w]->bB K H0 H p one->bB K H1 H q other->one.length<=1000->other.length<=1000->w<=1000->((∀xs∈one,xs.length=other.length/\∀ys∈cp other w,FF ys/\FF xs))->(∀xs∈other,xs.length=w)->(∀r H',H r=none->aI H H'->bB K H H' r (nL one other w)->Q (.ref r) H')->Ar K vs H Q E9
inductive C4 (K:FG9) (C:Addr) (vs:List V) (H:Hp) (Q:VK) (E9:XK):Prop
 | mk (x p:Addr) (H0 H1:Hp) (mv pt lk N:LR9):vs=[.ref x,.ref p]->jB K H0 H C x mv pt lk->fk mv pt lk->bB K H1 H p N->N.length<=100->((∀xs∈N,xs.length=mv.length/\∀ys∈cp mv mv.length,FF ys/\FF xs))->(∀r H',H r=none->aI H H'->bB K H H' r (nL N mv mv.length)->Q (.ref r) H')->C4 K C vs H Q E9
def Pq:Sp:=λ_ _ _ _=>False
theorem OR {K:FG9} {g:TG} (Pv:Nat->List V->Hp->Prop) (hz:xs.length<=sizeLine) (h0:Pv 0 [] H) (hl:∀i ys H,i<=xs.length->Pv i ys H->bF K H a xs)
  (hs:∀i x ys H,i < xs.length->xs[xs.length - 1 - i]?=some x->ys.length<=i->Pv i ys H->qE σ₀ g tf te x H (λy H'=>Pv (i+1) (ys++[y]) H') (λH'=>Pv (i+1) ys H'))
  (hd:∀ys H,ys.length<=xs.length->Pv xs.length ys H->∀p,H p=none->Q (.ref p) (upd H p (.lst ys))):qP (T6 K a xs.length) σ₀ g tf te Q H:=by
 refine ⟨λi m ys H=>m=xs.length - i/\i<=xs.length/\ys.length<=i/\Pv i ys H,⟨xs.length,by simp,bC _,bC _,h0⟩,?_⟩;rintro i m ys H ⟨rfl,hi,hy,p⟩;have q1:=hl i ys H hi p;by_cases hlt:i < xs.length
 ·refine .inr ⟨⟨hlt,xs,xs[xs.length - 1 - i]'(by lia),q1,af _⟩,by lia,λy H'=>Pv (i+1) (ys++[y]) H',λH'=>Pv (i+1) ys H',λy H' p'=>⟨xs.length - (i+1),by lia,rfl,hlt,by rw[aw,bJ];lia,p'⟩,λH' p'=>⟨xs.length - (i+1),by lia,rfl,hlt,by lia,p'⟩,λx H' y=>?_⟩;obtain ⟨rfl,e1⟩:=y;exact hs i x ys _ hlt (e1 xs q1) hy p
 ·have e:i=xs.length:=by lia
  subst e;exact .inl ⟨au _,by lia,hd ys H hy p⟩
theorem Qy (hy:0 < y):0 < (nm x).2*(nm y).1/\(lo ((nm x).1*(nm y).2) ((nm x).2*(nm y).1),hi ((nm x).1*(nm y).2) ((nm x).2*(nm y).1))=nm (x / y):=by
 have yn:0 < (nm y).1:=qS.mp hy;have hb:0 < (nm x).2*(nm y).1:=jq (jk x) yn
 have e1:(((nm x).1:Int):Rat)=x*(((nm x).2:Int):Rat):=by
  show (x.num:Rat)=x*(((x.den:Nat):Int):Rat)
  rw[jR,bc]
 have e2:(((nm y).1:Int):Rat)=y*(((nm y).2:Int):Rat):=by
  show (y.num:Rat)=y*(((y.den:Nat):Int):Rat)
  rw[jR,bc]
 have y0:y≠0:=λz=>by rw[z] at hy;exact absurd hy (by decide)
 have e3:x / y*y=x:=lX y0;refine ⟨hb,mX hb ?_⟩;rw[aY,aY,e1,e2];grind
inductive Ao (K:FG9) (vs:List V) (H:Hp) (Q:VK) (E9:XK):Prop
 | mk (u v:V) (x y:Rat):vs=[u,v]->b6 K H x u->b6 K H y v->0 < y->kN x->kN y->(∀r H',aI H H'->b6 K H' (x / y) (.ref r)->Q (.ref r) H')->Ao K vs H Q E9
inductive Km (K:FG9) (vs:List V) (H:Hp) (Q:VK) (E9:XK):Prop
 | mk (p q:Addr) (ws xs:List Rat):vs=[.ref p,.ref q]->cz K H p ws->cz K H q xs->ws.length=xs.length->xs.length<=1000->(∀w∈ws,0 < w/\kN w)->(∀x∈xs,kN x)->(∀r H',H r=none->aI H H'->cz K H' r (rW ws xs)->Q (.ref r) H')->Km K vs H Q E9
inductive Ge (vs:List V) (H:Hp) (Q:VK) (E9:XK):Prop
 | mk (p:Addr) (us:List V) (zss:List (List V)):vs=[.ref p]->H p=some (.lst us)->Paired (λzs u=>∃q,u=V.ref q/\H q=some (.lst zs)) zss us->zss.flatten.length<=1000->(∀r H',H r=none->aI H H'->H' r=some (.lst zss.flatten)->Q (.ref r) H')->Ge vs H Q E9
def vU (mv pt:LR9) (ws:List Rat) (T:Nat) (x:List Rat):LR9:=(Cs mv pt T).reverse.map λrows=>rW ws (rows.map λr=>cG r x)
inductive FZ (K:FG9) (vs:List V) (H:Hp) (Q:VK) (E9:XK):Prop
 | mk (p q l:Addr) (us:List V) (Rs:List (LR9)) (ws x:List Rat):vs=[.ref p,.ref q,.ref l]->cz K H p x->cz K H q ws->H l=some (.lst us)->Paired (IQ K l H) Rs us->Rs.length<=1000->ws.length<=1000->x.length<=1000->FF x->(∀w∈ws,0 < w/\kN w)->(∀R∈Rs,R.length=ws.length/\∀xs∈R,xs.length=x.length/\FF xs/\kN (cG xs x))->(∀r H',H r=none->aI H H'->bB K H H' r (Rs.reverse.map λrows=>rW ws (rows.map λr=>cG r x))->Q (.ref r) H')->FZ K vs H Q E9
inductive Kn (K:FG9) (vs:List V) (H:Hp) (Q:VK) (E9:XK):Prop
 | mk (q l:Addr) (n:Nat) (us:List V) (Rs:List (LR9)) (ws:List Rat):vs=[.ref q,.ref l,.int n]->cz K H q ws->H l=some (.lst us)->Paired (IQ K l H) Rs us->n<=100->Rs.length<=100->Rs.flatten.length<=1000->(vL ws Rs.length).length=Rs.flatten.length->(∀xs∈Rs.flatten,xs.length=n/\∀x∈xs,kN x)->(∀w∈ws,0 < w/\kN w)->(∀ys∈cp Rs.flatten n,FF ys/\FF (rW (vL ws Rs.length) ys))->(∀r H0 H',H r=none->aI H H'->bB K H0 H' r (oK Rs.flatten (vL ws Rs.length) n)->Q (.ref r) H')->Kn K vs H Q E9
inductive Gg (K:FG9) (C:Addr) (vs:List V) (H:Hp) (Q:VK) (E9:XK):Prop
 | mk (x:Addr) (u:Nat) (H0:Hp) (mv pt lk:LR9):vs=[.ref x,.int u]->u<=99->jB K H0 H C x mv pt lk->fk mv pt lk->T8 mv pt u->(∀r us H',H r=none->aI H H'->H' r=some (.lst us)->Paired (IQ K r H') (Cs mv pt u) us->Q (.ref r) H')->Gg K C vs H Q E9
inductive C7 (K:FG9) (vs:List V) (H:Hp) (Q:VK) (E9:XK):Prop
 | mk (p q:Addr) (n w:Nat) (H0:Hp) (rows:LR9) (due:List Rat):vs=[.ref p,.int n,.ref q]->bB K H0 H p rows->cz K H q due->due.length=rows.length->rows.length<=90->n<=90->(∀xs∈rows,xs.length=n)->FE (fX rows due) (n+1) w->(∀R ps,cQ (fX rows due) (n+1) R ps->n∉ps)->(∀t x R ps H',cQ (fX rows due) (n+1) R ps->H' t=some (.tup [.str (Str.ofString "yes"),.ref x])->H x=none->aI H H'->cz K H' x (mI R ps n)->Q (.ref t) H')->C7 K vs H Q E9
structure V3 (mv pt:LR9) (ws:List Rat) (T:Nat) (due:List Rat) (N X:Nat):Prop where
 lw:ws.length=pt.length
 wp:∀w∈ws,0 < w/\kN w
 ad:T8 mv pt T
 t40:T<=20
 rk:∀xs∈kry mv pt T,FF xs/\∀x∈xs,kN x
 rc:∀ys∈cp (kry mv pt T) mv.length,FF ys/\FF (rW (vL ws T) ys)
 sw:∃w,FE (fX (oK (kry mv pt T) (vL ws T) mv.length) due) (mv.length+1) w
 ok:∀R ps,cQ (fX (oK (kry mv pt T) (vL ws T) mv.length) due) (mv.length+1) R ps->mv.length∉ps/\∀y∈mI R ps mv.length,Tp N X y
 n0:0 < N
 nb:N<=2^195000
 xb:X<=2^195000
 rd:FF due
 pz:∀xs∈kry mv pt T,∀x:List Rat,x.length=mv.length->(∀y∈x,Tp N X y)->kN (cG xs x)
inductive Dm (K:FG9) (C:Addr) (vs:List V) (H:Hp) (Q:VK) (E9:XK):Prop
 | mk (x q s g:Addr) (T N X:Nat) (H0:Hp) (mv pt lk:LR9) (ws st go:List Rat):vs=[.ref x,.ref q,.ref s,.ref g,.int T]->jB K H0 H C x mv pt lk->fk mv pt lk->IM mv pt lk->cz K H q ws->cz K H s st->st.length=mv.length->cz K H g go->go.length=mv.length->CW mv pt st (List.replicate T (List.replicate pt.length 0))->(∀x∈go,kN x)->V3 mv pt ws T (jo mv T st go) N X->(∀t e p y pr H',H' t=some (.tup [.str (Str.ofString "puts"),.ref e,.ref p,.ref y])->H p=none->H y=none->aI H H'->b6 K H' (cG pr (jo mv T st go)) (.ref e)->bB K H H' p (vU mv pt ws T pr)->cz K H' y pr->Vh (kry mv pt T) (vL ws T) mv.length (jo mv T st go) pr->(∀z∈pr,Tp N X z)->Q (.ref t) H')->Dm K C vs H Q E9
theorem zO (ws:List Rat) (T:Nat):(vL ws T).length=T*ws.length:=by
 unfold vL
 induction T with
 | zero=>simp
 | succ T ih=>rw[je,dY,aw,ih,cZ];lia
theorem IV (h:w∈vL ws T):w∈ws:=by
 unfold vL at h;obtain ⟨l,hl,hw⟩:=gY.mp h;rw[lF hl] at hw;exact hw
theorem Hv {K:FG9} {l:Addr} {H:Hp}:∀{Rs:List (LR9)} {us:List V},Paired (IQ K l H) Rs us->∃zss:List (List V),Paired (λzs u=>∃q,u=V.ref q/\H q=some (.lst zs)) zss us/\Paired (λR zs=>Paired (cY K (EZ l) H) R zs) Rs zss
 | _,_,.nil=>⟨[],.nil,.nil⟩
 | _,_,.cons h t=>by
  obtain ⟨zss,a,b⟩:=Hv t;obtain ⟨q,e,_,zs,g,r,_⟩:=h;exact ⟨zs :: zss,.cons ⟨q,e,g⟩ a,.cons r b⟩
theorem AL {α β:Type} {F:α->V->Prop} {G:β->V->Prop} {b:β} (h:∀a y,F a y->G b y):∀{as:List α} {ys:List V},Paired F as ys->Paired G (List.replicate as.length b) ys
 | _,_,.nil=>.nil
 | _,_,.cons x t=>.cons (h _ _ x) (AL h t)
theorem Kw {α β:Type} {G:α->β->Prop} {a:α} {b:β} (h:G a b):∀n:Nat,Paired G (List.replicate n a) (List.replicate n b)
 | 0=>.nil
 | n+1=>.cons h (Kw h n)
theorem pJ {α β:Type} {F:α->β->Prop}:∀{Rs:List (List α)} {zss:List (List β)},Paired (λR zs=>Paired F R zs) Rs zss->Paired F Rs.flatten zss.flatten
 | _,_,.nil=>.nil
 | _,_,.cons h t=>bV h (pJ t)
theorem Ag {C:Rat->Prop} (h:∀xs∈rows,xs.length=n/\∀x∈xs,C x):∀ys∈cp rows n,∀y∈ys,C y:=λys hy y hy'=>by
 obtain ⟨j,hj,rfl⟩:=az.mp hy;obtain ⟨xs,hx,rfl⟩:=az.mp hy';have:=h xs hx;exact this.2 _ (getD_mem (by rw[this.1];exact kf.mp hj))
theorem Oo (h0:0 < w) (h:Dr W w):Dr W (1 / w):=by
 have wn:0 < w.num:=qS.mp h0;have w0:w≠0:=λz=>by rw[z] at h0;exact absurd h0 (by decide)
 have e:=Rn (a:=(w.den:Int)) (b:=w.num) (q:=1 / w) wn (by rw[ju];exact E2 w) (by
  have e1:(w.num:Rat)=w*((w.den:Nat):Rat):=jR w;have e2:1 / w*w=1:=lX w0;rw[bc,e1,<- Rat.mul_assoc,e2,Ec])
 have e1:(w.den:Int)=(1 / w).num:=congrArg Prod.fst e;have e2:w.num=((1 / w).den:Int):=congrArg Prod.snd e;have h1:=h.1;have h2:=h.2;exact ⟨by lia,by lia⟩
def MT (a1 a2 T:Nat):Nat:=a1*T+a2
def MH (a1 a2 T:Nat):Nat:=2*MT a1 a2 T+42
def Eg (a1 a2 c T:Nat):Nat:=2*(c*(T+1))+28+MH a1 a2 T
def O7 (a1 a2 T b:Nat):Nat:=a1*T+a2+b+12
def O6 (a1 a2 c T b:Nat):Nat:=c*T+26+O7 a1 a2 T b
def zQ (n a1 a2 c T:Nat):Nat:=(Eg a1 a2 c T+4)*n
def T4 (n a1 a2 c T b:Nat):Nat:=MH a1 a2 T+3+O6 a1 a2 c T b+(zQ n a1 a2 c T - Eg a1 a2 c T)
abbrev Z65 (n a1 a2 c T b:Nat):Prop:=n<=8/\T<=14/\zQ n a1 a2 c T<=445000/\Eg a1 a2 c T<=210000/\Eg a1 a2 c T+O7 a1 a2 T b+O6 a1 a2 c T b+MH a1 a2 T<=210000/\n*(Eg a1 a2 c T+O7 a1 a2 T b+O6 a1 a2 c T b+MH a1 a2 T+5)<=445000/\2*O7 a1 a2 T b+zQ n a1 a2 c T<=195000/\3+T4 n a1 a2 c T b+O6 a1 a2 c T b<=195000/\MT a1 a2 T+O7 a1 a2 T b+zQ n a1 a2 c T<=195000/\3+c*(T+1)+MT a1 a2 T+T4 n a1 a2 c T b<=195000/\a1*(T+2)+a2+b+c*(T+3)+22<=195000
def Rch (mv pt:LR9) (u:Nat) (go:List Rat):Prop:=∀pr:List Rat,pr.length=mv.length->(∀xs∈kry mv pt u,cG xs pr=0)->cG pr go=0
section
variable {mv pt lk pus:LR9} {ws go g1 g2:List Rat} {M1 M2 V a1 a2 c T0 n0 b B u T E:Nat}
theorem p2 (h:a<=b):2^a<=2^b:=av (by decide) h
theorem Hs:kry mv pt (u+1)=kry mv pt u++pt.map (d6 mv u):=by
 rw[<- jr,zZ,eT,jr];simp
theorem UX (X:Bd mv pt M1 M2 V a1 a2 c) (D:fk mv pt lk) (hu:u<=T0+1):∀xs∈kry mv pt u,∀x∈xs,Fr (M1^T0*M2) (2^(c*(T0+1))) x:=λxs hx x hx' =>
 Fr.up (X.kry D u xs hx x hx') (Nat.mul_dvd_mul_right (Nat.pow_dvd_pow _ (by lia)) _) (p2 (aD _ hu))
theorem Tf (hw:∀xs∈rows,xs.length=n) (lw:wT.length=rows.length) (h64:rows.length<=64) (hf:∀xs∈rows,∀x∈xs,Fr D1 V1 x) (hi:∀w∈wT,Fr B (2^22) (1 / w)):(∀ys∈cp rows n,(∀y∈ys,Fr D1 V1 y)/\∀y∈rW wT ys,Fr (D1*B) (V1*2^22) y)/\∀xs∈oK rows wT n,∀x∈xs,Fr (D1*(D1*B)) (64*(V1*(V1*2^22))) x:=by
 have h1:∀ys∈cp rows n,(∀y∈ys,Fr D1 V1 y)/\∀y∈rW wT ys,Fr (D1*B) (V1*2^22) y:=λys hy=>by
  have t:=Ag (C:=Fr D1 V1) (λxs hx=>⟨hw xs hx,hf xs hx⟩) ys hy;refine ⟨t,λy hy'=>?_⟩;unfold rW at hy';obtain ⟨i,h,e⟩:=bN hy';rw[dC] at e;rw[<- e,show ∀a b:Rat,a / b=a*(1 / b) from λa b=>by rw[gW,gW,Ec]];exact (t _ (aM _)).mul (hi _ (aM _))
 refine ⟨h1,λxs hx x hx'=>?_⟩;unfold oK nL at hx;obtain ⟨pc,hp,rfl⟩:=az.mp hx;obtain ⟨ca,ha,rfl⟩:=az.mp hp;obtain ⟨cb,hb,rfl⟩:=az.mp hx';exact (Fr.dot (h1 cb hb).1 (h1 ca ha).2).mono (aG _ (by rw[iB cb hb];exact h64))
theorem Te (X:Bd mv pt M1 M2 V a1 a2 c) (D:fk mv pt lk) (Z:Z65 n0 a1 a2 c T0 b) (hn:mv.length<=n0) (hu:u<=T0+1) (lw:ws.length=pt.length) (hw:∀w∈ws,0 < w/\Dr 1000 w) (E0:0 < E) (hE:E<=2^O7 a1 a2 T0 b):∃q:Nat,0 < q/\q<=2^zQ n0 a1 a2 c T0/\∀go:List Rat,go.length=mv.length->(∀x∈go,Fr E (2^(c*T0+26)) x)->Rch mv pt u go->V3 mv pt ws u go (E*q) (2^T4 n0 a1 a2 c T0 b):=by
 obtain ⟨n8,t14,z1,z2,z3,z4,z5,z6,z7,z8,z9⟩:=Z;have i4:=D.i4;have kl:=jX (mv:=mv) (pt:=pt) u;have kl2:u*pt.length<=15*4:=ax (by lia) i4;have wk:=gR (mv:=mv) (pt:=pt) rfl D.pw u;have lwt:(vL ws u).length=(kry mv pt u).length:=by rw[zO,kl,lw]
 have hk:=UX X D hu
 obtain ⟨Bw,b0,b1,hB⟩:=tP (c:=10) (l:=ws.map λw=>1 / w) (λx hx=>by
  obtain ⟨w,h,rfl⟩:=az.mp hx;have:=Oo (hw w h).1 (hw w h).2;exact ⟨ag this.1 (by decide),ag this.2 (by decide)⟩) (by decide)
 have b1:Bw<=2^42:=ag b1 (p2 (by rw[aj,lw];lia));obtain ⟨D1,eD⟩:∃d,M1^T0*M2=d:=⟨_,rfl⟩;rw[eD] at hk;have D10:0 < D1:=by rw[<- eD];exact a8 (eB X.m1) X.m2
 have D1b:D1<=2^MT a1 a2 T0:=by rw[<- eD];exact iu X.b1 X.b2
 obtain ⟨Vk,eV⟩:∃v,2^(c*(T0+1))=v:=⟨_,rfl⟩;rw[eV] at hk;have V1:1<=Vk:=by rw[<- eV];exact cA
 obtain ⟨f1,f2⟩:=Tf (n:=mv.length) wk lwt (by lia) hk (λw h=>hB _ (az.mpr ⟨w,IV h,rfl⟩));obtain ⟨Dl,eL⟩:∃d,D1*(D1*Bw)=d:=⟨_,rfl⟩;rw[eL] at f2;have L0:0 < Dl:=by rw[<- eL];exact a8 D10 (a8 D10 b0)
 have Lb:Dl<=2^MH a1 a2 T0:=by
  rw[<- eL,show MH a1 a2 T0=MT a1 a2 T0+(MT a1 a2 T0+42) by unfold MH;lia,aF,aF];exact ax D1b (ax D1b b1)
 have tk:∀xs∈oK (kry mv pt u) (vL ws u) mv.length,∀x∈xs,Tp Dl (2^Eg a1 a2 c T0) x:=λxs hx x hx'=>by
  refine Tp.of (f2 xs hx x hx') ?_;rw[<- eV,show Eg a1 a2 c T0=6+(c*(T0+1)+(c*(T0+1)+22))+MH a1 a2 T0 by unfold Eg;lia,aF 2 (6+_),aF 2 6,aF 2 (c*(T0+1)),aF 2 (c*(T0+1))];exact aD _ Lb
 have SW:∀m:Nat,m<=mv.length->m*(Eg a1 a2 c T0+4)<=445000:=λm hm=>ag (by rw[cg];exact aD _ (ag hm hn)) z1
 obtain ⟨G,eG⟩:∃g,oK (kry mv pt u) (vL ws u) mv.length=g:=⟨_,rfl⟩;have lG:G.length=mv.length:=by rw[<- eG];exact tO
 have wG:∀xs∈G,xs.length=mv.length:=by rw[<- eG];exact wo
 have tt:cp (cp G mv.length) mv.length=G:=by
  have:=LG wG;rwa [lG] at this
 rw[eG] at tk;have lt:(cp G mv.length).length=mv.length:=cL;have tkt:∀xs∈cp G mv.length,∀x∈xs,Tp Dl (2^Eg a1 a2 c T0) x:=Ag λxs hx=>⟨wG xs hx,tk xs hx⟩
 obtain ⟨q,q0,qb,hq⟩:=Pu (K0:=cp G mv.length) (n:=mv.length) (D:=Dl) (wl:=Eg a1 a2 c T0) (λxs hx=>by rw[iB xs hx,lG]) (by lia) L0 tkt ⟨Eg a1 a2 c T0,Dl,2^Eg a1 a2 c T0,L0,ag Lb (p2 (by lia)),cA,au _,by rw[tt];exact tk,by lia,by rw[tt,lG,lt];lia,by rw[tt,lG,lt];exact SW _ (by lia)⟩;rw[tt,lt] at hq;have Qm:(Eg a1 a2 c T0+4)*mv.length<=zQ n0 a1 a2 c T0:=aD _ hn;have qb:q<=2^zQ n0 a1 a2 c T0:=ag qb (p2 Qm);refine ⟨q,q0,qb,λgo lg hg hr=>?_⟩;have Nb:E*q<=2^(O7 a1 a2 T0 b+zQ n0 a1 a2 c T0):=by rw[aF];exact ax hE qb
 have N0:0 < E*q:=a8 E0 q0
 have tg:∀x∈go,Tp E (2^O6 a1 a2 c T0 b) x:=λx hx=>Tp.of (hg x hx) (by
  rw[show O6 a1 a2 c T0 b=c*T0+26+O7 a1 a2 T0 b from rfl,aF 2 (c*T0+26)];exact aD _ hE)
 have up:∀{a b:Nat},a<=b->(2:Nat)^a<=2^b:=p2;have rk:∀xs∈kry mv pt u,∀x∈xs,Tp D1 (2^(c*(T0+1)+MT a1 a2 T0)) x:=λxs hx x hx'=>Tp.of (hk xs hx x hx') (by rw[<- eV,aF];exact aD _ D1b)
 refine ⟨lw,λw h=>⟨(hw w h).1,?_⟩,⟨M1,M2,V,a1,a2,c,X,?_⟩,by lia,λxs hx=>⟨vn D10 (ag D1b (up (by lia))) (up (by lia)) (rk xs hx),λx hx'=>oY (rk xs hx x hx') D10 (ag D1b (up (by lia))) (up (by lia))⟩,λys hy=>⟨?_,?_⟩,?_,λR ps RR=>?_,N0,ag Nb (up (by lia)),up (by lia),vn E0 (ag hE (up (by lia))) (up (by lia)) tg,λxs hx x lx hx'=>?_⟩
 ·exact oY (Tp.of (Fr.own w (hw w h).2.1) (au _)) w.den_pos (ag (hw w h).2.2 (ag (show 1000<=2^10 by decide) (up (by decide)))) (ag (ax (au _) (hw w h).2.2) (ag (show 1000*1000<=2^20 by decide) (up (by decide))))
 ·have e1:a1*(u+1)<=a1*(T0+2):=aD _ (by lia);have e2:c*(u+2)<=c*(T0+3):=aD _ (by lia)
  lia
 ·exact vn D10 (ag D1b (up (by lia))) (W:=2^(c*(T0+1)+MT a1 a2 T0)) (up (by lia)) λy hy'=>Tp.of ((f1 ys hy).1 y hy') (by rw[<- eV,aF];exact aD _ D1b)
 ·have e1:D1*Bw<=2^(MT a1 a2 T0+42):=by rw[aF];exact ax D1b b1
  refine vn (a8 D10 b0) (ag e1 (up ?_)) (W:=2^(c*(T0+1)+22+(MT a1 a2 T0+42))) (up ?_) λy hy'=>Tp.of ((f1 ys hy).2 y hy') ?_
  ·unfold Eg MH at z2;lia
  ·unfold Eg MH at z2;lia
  ·rw[<- eV,aF 2 (_+22),aF 2 (c*(T0+1))];exact aD _ e1
 ·rw[eG];obtain ⟨w,ew⟩:∃w,Eg a1 a2 c T0+O7 a1 a2 T0 b+O6 a1 a2 c T0 b+MH a1 a2 T0+1=w:=⟨_,rfl⟩;have hj:go.length=G.length:=by rw[lg,lG]
  have c1:2^Eg a1 a2 c T0*E<=2^(w - 1):=ag (aD _ hE) (by rw[<- aF];exact up (by lia));have c2:2^O6 a1 a2 c T0 b*Dl<=2^(w - 1):=ag (aD _ Lb) (by rw[<- aF];exact up (by lia));refine ⟨w,Dl*E,2^w,a8 L0 E0,ag (ax Lb hE) (by rw[<- aF];exact up (by lia)),cA,au _,λxs hx x hx'=>?_,by lia,by rw[sN hj,lG];lia,by rw[sN hj,lG];exact ag (ax (show min mv.length (mv.length+1)<=n0 by lia) (by lia)) z4⟩;unfold fX at hx;obtain ⟨i,hi,rfl⟩:=bN hx;rw[dC] at hx';rcases aH.mp hx' with z | z
  ·exact (tk _ (aM _) x z).up E (ag c1 (up (by lia)))
  ·rw[bW.mp z,cg Dl E];exact (tg _ (aM _)).up Dl (ag c2 (up (by lia)))
 ·have hn':=Pz wk lwt (λw h=>(hw w (IV h)).1) lg hr RR;rw[eG] at RR;refine ⟨hn',λy hy=>(hq E _ go R ps E0 lg tg RR hn' y hy).mono ?_⟩;rw[show T4 n0 a1 a2 c T0 b=MH a1 a2 T0+(3+(O6 a1 a2 c T0 b+(zQ n0 a1 a2 c T0 - Eg a1 a2 c T0))) by unfold T4;lia,aF,aF 2 3,aF 2 (O6 a1 a2 c T0 b)];exact ax Lb (ax (show mv.length<=2^3 by lia) (aD _ (up (by lia))))
 ·have t:=Tp.sum (k:=mv.length) (M:=D1*(E*q)) (W:=2^(c*(T0+1)+MT a1 a2 T0)*2^T4 n0 a1 a2 c T0 b) (f:=λj=>xs.getD j 0*x.getD j 0) λj _=>(mL (rk xs hx) j).mul (mL hx' j)
  rw[dn (by rw[wk xs hx,lx]),wk xs hx];refine oY t (a8 D10 N0) (ag (ax D1b Nb) (by rw[<- aF];exact up (by lia))) ?_;rw[<- aF];refine ag (aG _ (show mv.length<=2^3 by lia)) ?_;rw[<- aF];exact up (by lia)
end
inductive Kj (K:FG9) (vs:List V) (H:Hp) (Q:VK) (E9:XK):Prop
 | mk (b:Addr) (m:Nat):vs=[.ref b,.int m,.int 1]->gh H b->m<=8->(∀r ws H',H r=none->cz K H' r ws->ws.length=m->(∀w∈ws,0 < w/\Dr 1000 w)->gh H' b->cI b H H'->Q (.ref r) H')->Kj K vs H Q E9
theorem S6 {t b:Int} (h:z*(b:Rat)=(t:Rat)) (hb:0 < b) (ht:0 < t):0 < z:=by
 have h1:(0:Rat) < (b:Rat):=qS.mpr hb;have h2:(0:Rat) < (t:Rat):=qS.mpr ht;by_cases q:0 < z
 ·exact q
 ·have:=Rat.mul_le_mul_of_nonneg_right (Rat.not_lt.mp q) (Rat.le_of_lt h1);rw[h,tT] at this;exact absurd h2 (Rat.not_lt.mpr this)
def Pg (rows:LR9) (wT x:List Rat):List Rat:=rW wT (rows.map λr=>cG r x)
section
variable {mv pt lk pus a b rows:LR9} {ws wT st go x y:List Rat} {T n m:Nat}
theorem OE:∀{x y:LR9},x.length=y.length->(∀z∈x,z.length=m)->(∀z∈y,z.length=m)->x.flatten=y.flatten->x=y:=by
 intro x
 induction x with
 | nil=>intro y h _ _ _;cases y with | nil=>rfl | cons _ _=>cases h
 | cons r x ih =>
  intro y h hx hy e;cases y with
  | nil=>cases h
  | cons s y =>
   rw[dY,dY] at e;obtain ⟨e1,e2⟩:=List.append_inj e (by rw[hx r (.head _),hy s (.head _)]);rw[e1,ih (by simpa using h) (λz hz=>hx z (.tail _ hz)) (λz hz=>hy z (.tail _ hz)) e2]
theorem Ua (hl:wT.length=rows.length) (hk:k < rows.length):(Pg rows wT x).getD k 0=cG (rows.getD k []) x / wT.getD k 0:=by
 unfold Pg rW;rw[aa,bu,aB,af hk,af (show k < wT.length by lia),aa (l:=rows),af hk,aa (l:=wT),af (show k < wT.length by lia)];rfl
theorem IW (hl:wT.length=rows.length):(Pg rows wT x).length=rows.length:=by unfold Pg rW;rw[bo,aj,hl,kG]
theorem S5 (lw:ws.length=pt.length):vU mv pt ws T x=Cz (Pg (kry mv pt T) (vL ws T) x) T T pt.length:=by
 unfold vU Cz;rw[jt,List.replicate_zero,c6,List.map_reverse];congr 1;have lt:∀T,(vL ws T).length=(kry mv pt T).length:=λT=>by rw[zO,jX,lw]
 have fl:∀T:Nat,((Cs mv pt T).map λrows=>rW ws (rows.map λr=>cG r x)).flatten=Pg (kry mv pt T) (vL ws T) x:=by
  intro T
  induction T with
  | zero=>rfl
  | succ T ih =>
   have e7:vL ws (T+1)=vL ws T++ws:=by unfold vL;rw[List.replicate_succ',eT];simp
   rw[zZ,b7,eT,ih,Hs,e7];unfold Pg rW;rw[b7,FH (by rw[aj,lt T])];simp
 have wl:(Pg (kry mv pt T) (vL ws T) x).length=T*pt.length:=by rw[IW (lt T),jX]
 refine OE (m:=pt.length) (by unfold Cs Ic;rw[aj,aj,aj]) (λz hz=>?_) (λz hz=>?_) (by rw[fl,BS wl])
 ·unfold Cs at hz;obtain ⟨R,hR,rfl⟩:=az.mp hz;obtain ⟨t,_,rfl⟩:=az.mp hR;unfold rW;rw[bo,aj,aj,lw,kG]
 ·exact Rl (T:=T) wl z (by unfold Cz;exact bO _ (kH.mpr hz))
theorem Ky:(vU mv pt ws T x).length=T:=by unfold vU Cs;rw[aj,tG,aj,bR]
theorem UQ (lw:ws.length=pt.length):∀xs∈vU mv pt ws T x,xs.length=pt.length:=λxs hx=>by
 unfold vU Cs at hx;obtain ⟨R,hR,rfl⟩:=az.mp hx;obtain ⟨t,_,rfl⟩:=az.mp (kH.mp hR);unfold rW;rw[bo,aj,aj,lw,kG]
theorem LW (D:fk mv pt lk) (ls:st.length=mv.length) (lg:go.length=mv.length) (lw:ws.length=pt.length) (h:Vh (kry mv pt T) (vL ws T) mv.length (jo mv T st go) x):tV mv pt st (vU mv pt ws T x) T=go:=by
 have kl:=jX (mv:=mv) (pt:=pt) T;have lt:(vL ws T).length=(kry mv pt T).length:=by rw[zO,kl,lw]
 have wk:=gR (mv:=mv) (pt:=pt) rfl D.pw T;rw[S5 lw];refine JS D ls lg (au _) (IW lt) ?_;have wl:(Vu (kry mv pt T) (Pg (kry mv pt T) (vL ws T) x) mv.length).length=mv.length:=RV;refine Fb (by rw[wl,h.2.1]) λc hc=>?_
 rw[wl] at hc;rw[Kb hc,IW lt];obtain ⟨e,ee⟩:∃e:List Rat,e=(List.range mv.length).map λj=>if j=c then (1:Rat) else 0:=⟨_,rfl⟩
 have le:e.length=mv.length:=by rw[ee,aj,bR]
 have ea:∀j,j < mv.length->e.getD j 0=if j=c then 1 else 0:=λj hj=>by rw[ee,aa,aB,cM hj];rfl
 have s:=h.2.2 e le;rw[dn (by rw[le,h.2.1]),le,gJ hc λj hj ne=>by rw[ea j hj,if_neg ne,tT],ea c hc,if_pos rfl,Ec] at s;rw[s];refine aZ λk hk=>?_
 rw[Ua lt hk,JQ wk hk le,gJ hc λj hj ne=>by rw[ea j hj,if_neg ne,js],ea c hc,if_pos rfl,Ed];rw[gW,gW];grind
end
theorem Kd {M W:Nat}:∀{l:List Rat},(∀x∈l,Tp M W x)->Tp M (l.length*W) l.sum
 | [],_=>by rw[List.length_nil,Nat.zero_mul];exact Tp.zero
 | x :: l,h=>by
  rw[List.sum_cons,bQ,cZ,tU];exact (h x (.head _)).add (Kd λy hy=>h y (.tail _ hy))
theorem RZ (h1:∀x∈xs,Tp M A x) (h2:∀y∈ys,Tp N B y):Tp (M*N) (xs.length*(A*B)) (cG xs ys):=by
 unfold cG
 have t:=Kd (M:=M*N) (W:=A*B) (l:=List.zipWith (λx y=>x*y) xs ys) λz hz=>by
  obtain ⟨i,hi,e⟩:=bN hz;rw[dC] at e;rw[<- e];exact (h1 _ (aM _)).mul (h2 _ (aM _))
 exact t.mono (aG _ (by rw[bo];lia))
def kBl:Kind Bool where
 R:=λ_ _ x i=>x=.bl i
 d:=0
 inj:=λ_ h1 h2=>by rw[h1] at h2;cases h2;rfl
 rc:=λ{X pins σ H s x y v u a b A} I rx ry h1 h2 _=>by
  subst h1 h2;cases (show v=Value.bool a from rx);cases (show u=Value.bool b from ry);have q:=SeqAt.RcAt.bool_bool (A:=A) (s:=s) a b;rwa [il] at q
 ne:=λ{X pins σ H s x y v u a b A} I rx ry h1 h2 _=>by
  subst h1 h2;cases (show v=Value.bool a from rx);cases (show u=Value.bool b from ry);have q:=SeqAt.RcNeAt.bool_bool (A:=A) (s:=s) a b;rwa [il] at q
 eq:=λ{X pins σ H s x y v u a b A} I rx ry h1 h2 _=>by
  subst h1 h2;cases (show v=Value.bool a from rx);cases (show u=Value.bool b from ry);have q:=SeqAt.EqAt.bool_bool (A:=A) (s:=s) a b;rwa [il] at q
def GB (ν p:Nat) (rows:LR9):Prop:=∃N:Nat,0 < N/\N<=2^ν/\∀xs∈rows,∀x∈xs,Fr N (2^p) x
section
variable {mv pt lk pus a b rows:LR9} {ws st go x:List Rat} {M1 M2 V a1 a2 c B ν p ν' p' T w m:Nat}
theorem GB.up (h:GB ν p a) (h1:ν<=ν') (h2:p<=p'):GB ν' p' a:=by
 obtain ⟨N,N0,Nb,f⟩:=h;exact ⟨N,N0,ag Nb (p2 h1),λxs hx x hx'=>(f xs hx x hx').mono (p2 h2)⟩
theorem GB.szn (h:GB ν p a) (h1:ν+p<=195000):∀xs∈a,∀x∈xs,kN x:=λxs hx x hx'=>by
 obtain ⟨N,N0,Nb,f⟩:=h;exact oY (Tp.of (f xs hx x hx') (W:=2^(p+ν)) (by rw[aF];exact aD _ Nb)) N0 (ag Nb (p2 (by lia))) (p2 (by lia))
theorem Bd.upA (X:Bd mv pt M1 M2 V a1 a2 c) (h1:a1<=a1') (h2:a2<=a2') (h3:c<=c'):Bd mv pt M1 M2 V a1' a2' c':=⟨X.m1,X.m2,ag X.b1 (p2 h1),ag X.b2 (p2 h2),X.gm,X.gp,ag X.vc (p2 h3)⟩
theorem Tz (X:Bd mv pt M1 M2 V 80 160 33) (h:GB ν p pus) (h1:ν<=1000*40) (h2:p<=1000*40) (lp:pus.length<=12) (B0:0 < B) (Bb:B<=2^600) (hs:∀x∈st,Fr B (2^22) x):RO mv pt pus st:=by
 obtain ⟨N,N0,Nb,f⟩:=h;refine ⟨M1,M2,V,80,160,33,M2*N*B,N,p+22,160+ν+600,X,a8 (a8 X.m2 N0) B0,?_,kd _ _,λx hx=>Fr.up (hs x hx) (c7 _ _) (p2 (by lia)),λxs hx x hx'=>(f xs hx x hx').mono (p2 (by lia)),by lia,by decide⟩;rw[aF,aF];exact ax (ax X.b2 Nb) Bb
theorem Ny (R:Rg mv pt w) (D:fk mv pt lk) (S:VY mv pt T):∃M1 M2 V a1 a2 c b1 b2,Us mv pt w T M1 M2 V a1 a2 c b1 b2/\a1<=80/\a2<=160/\c<=33/\b1<=525:=by
 have i4:=D.i4;have n8:=D.n8;have small:w<=9->∀l:List Rat,(∀x∈l,Dr (max w 6) x)->∃B,0 < B/\6∣B/\(∀x∈l,Fr B (2^22) x)/\(l.length<=2*mv.length+T*pt.length->B<=2^12)/\(l.length<=2*mv.length+2*(T*pt.length)->B<=2^12):=λw9 l h=>⟨2520,by decide,by decide,λx hx=>(OJ ⟨ag (h x hx).1 (by lia),ag (h x hx).2 (by lia)⟩ (Ad _)).mono (by decide),λ_=>by decide,λ_=>by decide⟩
 have wide:w=1000->∀t,T*pt.length<=t->mv.length<=2->∀l:List Rat,(∀x∈l,Dr (max w 6) x)->∃B,0 < B/\6∣B/\(∀x∈l,Fr B (2^22) x)/\(l.length<=2*mv.length+T*pt.length->B<=2^(45+10*t))/\(l.length<=2*mv.length+2*(T*pt.length)->B<=2^(45+20*t)):=λw9 t ht n2 l h=>by
  obtain ⟨B,h0,h1,h2⟩:=tP (c:=10) (l:=l) (λx hx=>⟨ag (h x hx).1 (by rw[w9];decide),ag (h x hx).2 (by rw[w9];decide)⟩) (by decide)
  have up:∀k,3+(10*l.length+2)<=k->6*B<=2^k:=λk hk=>by
   refine ag ?_ (av (by decide) hk);rw[aF 2 3];exact ax (by decide) h1
  exact ⟨6*B,by lia,kd _ _,λx hx=>(h2 x hx).scaleL 6,λhl=>up _ (by lia),λhl=>up _ (by lia)⟩
 rcases R with ⟨w9,X⟩ | ⟨w9,n5,X⟩ | ⟨w9,n2,M1,M2,X⟩
 ·exact ⟨_,_,_,_,_,_,12,12,⟨X,mK (n':=8) (T':=12) (b':=12) n8 S.1 (au _) (by decide),zN (n':=8) (T':=12) (b':=12) n8 S.1 (au _) (by decide),mK (n':=8) (T':=12) (b':=12) n8 S.1 (au _) (by decide),small w9⟩,by decide,by decide,by decide,by decide⟩
 ·exact ⟨_,_,_,_,_,_,12,12,⟨X,mK (n':=5) (T':=12) (b':=12) n5 S.1 (au _) (by decide),zN (n':=5) (T':=12) (b':=12) n5 S.1 (au _) (by decide),mK (n':=5) (T':=12) (b':=12) n5 S.1 (au _) (by decide),small w9⟩,by decide,by decide,by decide,by decide⟩
 ·by_cases T3:T<=3
  ·have m:T*pt.length<=3*4:=ax T3 i4;exact ⟨_,_,_,_,_,_,165,285,⟨X,mK (n':=2) (T':=3) (b':=165) n2 T3 (au _) (by decide),zN (n':=2) (T':=3) (b':=165) n2 T3 (au _) (by decide),mK (n':=2) (T':=3) (b':=285) n2 T3 (au _) (by decide),wide w9 12 m n2⟩,by decide,by decide,by decide,by decide⟩
  ·obtain ⟨T12,z | ⟨hd,_⟩⟩:=S
   ·exact absurd z T3
   have m:T*pt.length<=12*4:=ax T12 i4
   have gf:∀l:LR9,(∀xs∈l,xs∈mv++pt)->GF 2520 1000 l:=λl hl xs hx x hx'=>by
    have:=hd xs (hl xs hx) x hx';exact (Fr.own x (aT this.2)).dvd (Lc this.1)
   have X2:Bd mv pt 2520 2520 1000 12 12 13:=⟨by decide,by decide,by decide,by decide,gf mv λxs hx=>aH.mpr (.inl hx),gf pt λxs hx=>aH.mpr (.inr hx),ag (aG _ (show mv.length+4<=6 by lia)) (by decide)⟩;exact ⟨_,_,_,_,_,_,525,1005,⟨X2,mK (n':=2) (T':=12) (b':=525) n2 T12 (au _) (by decide),zN (n':=2) (T':=12) (b':=525) n2 T12 (au _) (by decide),mK (n':=2) (T':=12) (b':=1005) n2 T12 (au _) (by decide),wide w9 48 m n2⟩,by decide,by decide,by decide,by decide⟩
end
section
variable {mv:LR9} {x y:List Rat} {n t:Nat}
theorem Ms (hc:t < n):(cp mv n).getD t []=mv.map λxs=>xs.getD t 0:=by
 unfold cp;rw[aa,aB,cM hc];rfl
theorem NV (hc:t < mv.length):(mJ mv x).getD t 0=cG (mv.getD t []) x:=by
 unfold mJ;rw[aa,aB,aa,af hc];rfl
theorem Ta (wm:∀xs∈mv,xs.length=n) (lx:x.length=mv.length) (ly:y.length=n):cG (mJ (cp mv n) x) y=cG x (mJ mv y):=by
 have lt:(cp mv n).length=n:=cL;rw[dn (by rw[rZ,lt,ly]),rZ,lt,dn (by rw[rZ,lx]),lx]
 have e1:∀c,c < n->(mJ (cp mv n) x).getD c 0*y.getD c 0=bP mv.length λi=>x.getD i 0*((mv.getD i []).getD c 0*y.getD c 0):=λc hc=>by
  rw[NV (by lia),Ms hc,dn (by rw[aj,lx]),aj,eO,<- c9];refine aZ λi hi=>?_
  have:(mv.map λxs=>xs.getD c 0).getD i 0=(mv.getD i []).getD c 0:=by
   rw[aa,aB,aa (l:=mv),af hi];rfl
  rw[this];grind
 rw[aZ e1,iC];refine aZ λi hi=>?_
 have wi:(mv.getD i []).length=n:=by
  rw[aa,af hi];exact wm _ (aM hi)
 rw[c9,NV hi,dn (by rw[wi,ly]),wi]
theorem NO:∀t,d6 mv t (mJ mv x)=d6 mv (t+1) x
 | 0=>rfl
 | t+1=>by
  show mJ mv (d6 mv t (mJ mv x))=mJ mv (d6 mv (t+1) x)
  rw[NO t]
theorem KC (wm:∀xs∈mv,xs.length=mv.length) (ly:y.length=mv.length):∀t (x:List Rat),x.length=mv.length->cG (d6 (cp mv mv.length) t x) y=cG x (d6 mv t y)
 | 0,x,_=>rfl
 | t+1,x,lx=>by
  have lt:(cp mv mv.length).length=mv.length:=cL;rw[<- NO,KC wm ly t _ (by rw[rZ,lt]),Ta wm lx (jO ly t)];rfl
end
theorem IM.turn (h:IM mv pt lk):IM (cp mv mv.length) lk pt:=by
 obtain ⟨M,V,a,b,c,d,e,f⟩:=h;exact ⟨M,V,a,b,c,Ej d,f,e⟩
theorem yC:∀{ps:List Nat},Paired (λj x=>x=V.int ((j:Nat):Int)) ps (eh ps)
 | []=>.nil
 | _ :: _=>.cons rfl yC
inductive Dc (K:FG9) (vs:List V) (H:Hp) (Q:VK) (E9:XK):Prop
 | mk (p:Addr) (n w:Nat) (H0:Hp) (rows R:LR9) (ps:List Nat):vs=[.ref p,.int n]->bB K H0 H p R->R.length<=100->n<=100->cQ rows n R ps->FE R n w->(∀xs∈R,∀x∈xs,kN x)->(∀r H',H r=none->aI H H'->bB K H H' r (mh R ps n)->Q (.ref r) H')->Dc K vs H Q E9
def Vf (mv pt:LR9) (ws:List Rat) (pus:LR9) (pr:List Rat):Prop:=∀s k,s < pus.length->k < pt.length->ws.getD k 0*(pus.reverse.getD s []).getD k 0=cG (d6 mv s (pt.getD k [])) pr
section
variable {mv pt lk pus:LR9} {ws st go pr x:List Rat} {M1 M2 V B T w s k:Nat}
theorem Oj:∀{T:Nat},s < T->k < pt.length->(kry mv pt T)[s*pt.length+k]?=some (d6 mv s (pt.getD k []))
 | 0,h,_=>absurd h (di _)
 | T+1,h,hk=>by
  rw[Hs];have kl:=jX (mv:=mv) (pt:=pt) T;rcases cN s T with z | z
  ·have:(s+1)*pt.length<=T*pt.length:=aG _ z;rw[cZ] at this;rw[bY (by lia),Oj z hk]
  ·obtain rfl:s=T:=by lia
   rw[bG (by lia),kl,Vr,aB,aa,af hk];rfl
theorem Sb (lw:ws.length=pt.length) (hp:∀w∈ws,0 < w):Vf mv pt ws (vU mv pt ws T pr) pr:=λs k hs hk=>by
 rw[Ky] at hs
 have e1:(vU mv pt ws T pr).reverse.getD s []=rW ws ((pt.map (d6 mv s)).map λr=>cG r pr):=by
  unfold vU Cs;rw[<- List.map_reverse,List.reverse_reverse,aa,aB,aB,cM hs];rfl
 have e2:(rW ws ((pt.map (d6 mv s)).map λr=>cG r pr)).getD k 0=cG (d6 mv s (pt.getD k [])) pr / ws.getD k 0:=by
  unfold rW;rw[aa,bu,aB,aB,af hk,af (show k < ws.length by lia),aa (l:=pt),af hk,aa (l:=ws),af (show k < ws.length by lia)];rfl
 have p0:=hp _ (getD_in (l:=ws) (i:=k) (e:=0) (by lia));have n0:ws.getD k 0≠0:=λz=>by rw[z] at p0;exact absurd p0 (by decide)
 rw[e1,e2,eO];exact lX n0
theorem Sa (D:fk mv pt lk) (lr:pr.length=mv.length) (lw:ws.length=pt.length) (lo:row.length=pt.length):List.zipWith (λu v=>u*v) ws row=L2.seenQ pt (d6 (cp mv mv.length) s pr)↔∀k,k < pt.length->ws.getD k 0*row.getD k 0=cG (d6 mv s (pt.getD k [])) pr:=by
 have l1:(List.zipWith (λu v=>u*v) ws row).length=pt.length:=by rw[bo,lw,lo,kG]
 have l2:(L2.seenQ pt (d6 (cp mv mv.length) s pr)).length=pt.length:=by unfold L2.seenQ;rw[aj]
 have e1:∀k,k < pt.length->(List.zipWith (λu v=>u*v) ws row).getD k 0=ws.getD k 0*row.getD k 0:=λk hk=>by
  rw[aa,bu,af (show k < ws.length by lia),af (show k < row.length by lia),aa,af (show k < ws.length by lia),aa,af (show k < row.length by lia)];rfl
 have e2:∀k,k < pt.length->(L2.seenQ pt (d6 (cp mv mv.length) s pr)).getD k 0=cG (d6 mv s (pt.getD k [])) pr:=λk hk=>by
  have m:=getD_in (l:=pt) (i:=k) (e:=[]) hk;unfold L2.seenQ;rw[tQ,<- KC D.mw (D.pw _ m) s pr lr,tQ,aa,aB,af hk,aa,af hk];rfl
 exact ⟨λh k hk=>by rw[<- e1 k hk,h,e2 k hk],λh=>Fb (by rw[l1,l2]) λk hk=>by rw[l1] at hk;rw[e1 k hk,e2 k hk,h k hk]⟩
theorem Nz (hs:s < pus.length) (h:pus[pus.length - 1 - s]?=some row):pus.reverse.getD s []=row:=by
 rw[aa,List.getElem?_reverse hs,h];rfl
theorem Sd (lp:pus.length=T):Vf mv pt ws pus pr↔∀t k,t < T->k < pt.length->ws.getD k 0*(pus.getD t []).getD k 0=cG (d6 mv (T - t - 1) (pt.getD k [])) pr:=by
 have e:∀t,t < T->pus.reverse.getD (T - t - 1) []=pus.getD t []:=λt ht=>by
  rw[Nz (row:=pus.getD t []) (by lia) (by rw[show pus.length - 1 - (T - t - 1)=t by lia,aa,af (by lia)];rfl)]
 refine ⟨λh t k ht hk=>by rw[<- e t ht];exact h _ k (by lia) hk,λh s k hs hk=>?_⟩;have:=h (T - s - 1) k (by lia) hk;rwa [<- e _ (by lia),show T - (T - s - 1) - 1=s by lia] at this
structure QU (mv pt:LR9) (ws st:List Rat) (T:Nat) (pus:LR9) (pr:List Rat):Prop where
 lp:pus.length=T
 wp:∀xs∈pus,xs.length=pt.length
 lr:pr.length=mv.length
 cf:CW mv pt st pus
 en:RO mv pt pus st
 fp:∀s,s<=T->lA 75000 90000 (d6 (cp mv mv.length) s pr)
 sw:∀w∈ws,kN w
 su:∀xs∈pus,∀x∈xs,kN x
 dk:∀xs∈kry mv pt T,FC pr xs
def QV (pr:List Rat):Prop:=lA (1000*40) (1000*40) pr
theorem Pk (X:Bd mv pt M1 M2 V 80 160 33) (D:fk mv pt lk) (ls:st.length=mv.length) (t12:T<=12) (B0:0 < B) (Bb:B<=2^600) (hs:∀x∈st,Fr B (2^22) x) (hw:∀w∈ws,0 < w/\Dr 1000 w) (lp:pus.length=T) (wp:∀xs∈pus,xs.length=pt.length) (g:GB (1000*40) (1000*40) pus) (lr:pr.length=mv.length) (hr:QV pr):QU mv pt ws st T pus pr:=by
 have n8:=D.n8;have EN:=Tz X g (au _) (au _) (by lia) B0 Bb hs;have su:=g.szn (by decide);obtain ⟨N,N0,Nb,f⟩:=g;obtain ⟨M,W,m0,mb,wb,fr⟩:=hr;have et:(cp mv mv.length).length=mv.length:=cL;refine ⟨lp,wp,lr,λk hk=>?_,EN,λs hs'=>?_,λw h=>?_,su,λxs hx=>?_⟩
 ·have hN:M2*N*B<=2^(160+1000*40+600):=by
   rw[aF,aF];exact ax (ax X.b2 Nb) Bb
  have N1:0 < M2*N*B:=a8 (a8 X.m2 N0) B0;have fs:=(X.states D ls wp N1 hN (kd _ _) (p:=1000*40+22) (λx hx=>Fr.up (hs x hx) (c7 _ _) (p2 (by lia))) (λxs hx x hx'=>(f xs hx x hx').mono (p2 (by lia))) (by lia) (by decide) k hk).1;have k1:80*k<=80*12:=aD _ (by lia);refine ⟨M1^k*(M2*N*B),2^(33*k+(1000*40+22)),a8 (eB X.m1) N1,ag (iu X.b1 hN) (p2 (by lia)),p2 (by lia),fs,λxs hx x hx'=>Fr.up (f xs hx x hx') ?_ (p2 (by lia))⟩;exact iL (iL (c7 _ _) (kd _ _)) (c7 _ _)
 ·exact ⟨M1^s*M,2^(33*s+1000*40),a8 (eB X.m1) m0,ag (iu X.b1 mb) (p2 (by lia)),p2 (by lia),Jr (mv:=cp mv mv.length) (p:=1000*40) (Ej X.gm) (λxs hx=>by rw[et];exact iB xs hx) (by rw[et];exact X.vc) (by rw[et];exact lr) (λz hz=>(fr z hz).mono wb) s⟩
 ·have:=(hw w h).2;exact oY (Tp.of (Fr.own w this.1) (au _)) w.den_pos (ag this.2 (ag (show 1000<=2^10 by decide) (p2 (by decide)))) (ag (ax (au _) this.2) (ag (show 1000*1000<=2^20 by decide) (p2 (by decide))))
 ·have e1:80*(T - 1)<=80*12:=aD _ (by lia);exact ⟨1000*40,1000*40,2000,400,⟨M,W,m0,mb,wb,fr⟩,⟨M1^(T - 1)*M2,2^(33*T),a8 (eB X.m1) X.m2,ag (iu X.b1 X.b2) (p2 (by lia)),p2 (by lia),X.kry D T xs hx⟩,by decide⟩
theorem Mm (RG:Rg mv pt w) (D:fk mv pt lk) (hT:VY mv pt T) (ls:st.length=mv.length) (ds:∀x∈st,Dr (max w 6) x) (dp:DrP pt T w pus) (lw:ws.length=pt.length) (hw:∀w∈ws,0 < w/\Dr 1000 w) (hg:tV mv pt st pus T=go) :
  RO mv pt pus st/\GB 600 22 pus/\(∀x∈go,kN x)/\CW mv pt st (List.replicate T (List.replicate pt.length 0)) /\
  (∃N X,V3 mv pt ws T (jo mv T st go) N X/\∀x:List Rat,x.length=mv.length->(∀z∈x,Tp N X z)->GB (1000*28+300) (1000*28+300) (vU mv pt ws T x)/\lA (1000*28+300) (1000*28+300) x) /\
  ∀(pus':LR9) (pr:List Rat),pus'.length=T->(∀xs∈pus',xs.length=pt.length)->GB (1000*40) (1000*40) pus'->pr.length=mv.length->QV pr->QU mv pt ws st T pus' pr:=by
 have n8:=D.n8;have t12:=hT.1;obtain ⟨M1,M2,V,a1,a2,c,b1,b2,U,ha1,ha2,hc,hb⟩:=Ny RG D hT;obtain ⟨B,B0,Bb,_,f1,f2⟩:=U.pair ls ds dp;have wp:∀xs∈pus,xs.length=pt.length:=λxs hx=>(dp.2 xs hx).1
 obtain ⟨EN,fe⟩:=U.bd.end D ls dp.1 wp B0 Bb f1 f2 (VC U.z1);have fe:=fe T (au _);rw[hg] at fe;have lg:go.length=mv.length:=by rw[<- hg];exact mM ls (by rw[dp.1];exact au _)
 have CT:=U.bd.ctf D ls B0 Bb (Td f1) (λx hx=>(fe x hx).mono (p2 (by lia))) U.z1;have hl:=U.bd.lack D ls f1 fe;have X:=U.bd.upA ha1 ha2 hc;have B6:B<=2^600:=ag Bb (p2 (by lia));have rch:Rch mv pt T (jo mv T st go):=λpr l z=>Mc D ls lg dp.1 wp hg l z
 have hN:M2*B<=2^(160+525):=by rw[aF];exact ax X.b2 (ag Bb (p2 hb))
 obtain ⟨E,eE⟩:∃E,M1^T*(M2*B)=E:=⟨_,rfl⟩;have E0:0 < E:=by rw[<- eE];exact a8 (eB X.m1) (a8 X.m2 B0)
 have Eb:E<=2^1645:=by
  rw[<- eE];exact ag (iu X.b1 hN) (p2 (by lia))
 rw[eE] at CT hl;have cT:c*T<=33*12:=ax hc t12;have hl':∀x∈jo mv T st go,Fr E (2^(33*12+26)) x:=λx hx=>(hl x hx).mono (p2 (by lia))
 have ll:=Bm (T:=T) ls lg;refine ⟨EN,⟨B,B0,B6,f2⟩,CT.sg,CT.cf,?_,λpus' pr lp wp' g lr hr=>Pk X D ls t12 B0 B6 f1 hw lp wp' g lr hr⟩
 ·have hE:E<=2^O7 80 160 12 600:=ag Eb (p2 (by decide));obtain ⟨q,q0,qb,hq⟩:=Te X D (show Z65 8 80 160 33 12 600 by decide) n8 (u:=T) (by lia) lw hw E0 hE;refine ⟨_,_,hq _ ll hl' rch,λx lx hpx=>?_⟩
  have Nb:E*q<=2^(1645+1000*25+376):=by
   rw[show 1645+1000*25+376=1645+(1000*25+376) from rfl,aF 2 1645];exact ax Eb (ag qb (p2 (by decide)))
  have N0:0 < E*q:=a8 E0 q0;have hk:=UX X D (u:=T) (T0:=12) (by lia);obtain ⟨D1,eD⟩:∃d,M1^12*M2=d:=⟨_,rfl⟩;rw[eD] at hk;have D10:0 < D1:=by rw[<- eD];exact a8 (eB X.m1) X.m2
  have D1b:D1<=2^1120:=by rw[<- eD];exact iu X.b1 X.b2
  obtain ⟨Bw,b0,b1',hB⟩:=tP (c:=10) (l:=ws.map λw=>1 / w) (λx hx=>by
   obtain ⟨w,h,rfl⟩:=az.mp hx;have:=Oo (hw w h).1 (hw w h).2;exact ⟨ag this.1 (by decide),ag this.2 (by decide)⟩) (by decide)
  have b1':Bw<=2^42:=ag b1' (p2 (by rw[aj,lw];have:=D.i4;lia));have wk:=gR (mv:=mv) (pt:=pt) rfl D.pw T;constructor
  ·refine ⟨D1*(E*q)*Bw,a8 (a8 D10 N0) b0,?_,λxs hx z hz=>?_⟩
   ·refine ag (ax (ax D1b Nb) b1') ?_;rw[<- aF,<- aF];exact p2 (by decide)
   ·unfold vU at hx;obtain ⟨R,hR,rfl⟩:=az.mp hx;have hR:=kH.mp hR;unfold rW at hz;obtain ⟨j,hj,rfl⟩:=bN hz;rw[dC,ji,show ∀a b:Rat,a / b=a*(1 / b) from λa b=>by rw[gW,gW,Ec]];have hj':j < R.length/\j < ws.length:=by rw[bo,aj] at hj;lia
    have mr:R[j]'hj'.1∈kry mv pt T:=by rw[<- jr];exact gY.mpr ⟨R,hR,aM _⟩
    have t1:=(RZ (M:=D1) (A:=2^(33*13)*D1) (λy hy=>Tp.of (hk _ mr y hy) (au _)) hpx).mul (Tp.of (hB _ (az.mpr ⟨ws[j]'hj'.2,aM _,rfl⟩)) (au _));refine (t1.fr (a8 (a8 D10 N0) b0)).mono ?_;rw[wk _ mr];refine ag (ax (ax (show mv.length<=2^3 by lia) (ax (aD _ D1b) (au _))) (aD _ b1')) ?_;rw[<- aF,<- aF,<- aF,<- aF,<- aF];exact p2 (by decide)
  ·exact ⟨E*q,_,N0,ag Nb (p2 (by decide)),p2 (by decide),λz hz=>(hpx z hz).fr N0⟩
end
def VT (K:FG9) (H:Hp) (d:List Rat ⊕ LR9) (v:V):Prop:=match d with
 | .inl r=>yH.R K H v r
 | .inr g=>Bp.R K H v g
theorem Og {σ:St} (I:Inv X pins σ H s) (hp:bF X.K H p xs) (hq:bF X.K H q ys) (pa:Paired (VT X.K H) ds xs) (pb:Paired (VT X.K H) ds ys) (hA:A.units+10 < cLine) :
  SeqAt.RcAt A s (.ref p) (.ref q) true/\SeqAt.RcNeAt A s (.ref p) (.ref q) false:=by
 obtain ⟨us,r1,t1,_⟩:=I.list hp;obtain ⟨ws,r2,t2,_⟩:=I.list hq;have l1:=r1.length;have l2:=r2.length;have l3:=pa.length;have l4:=pb.length
 have it:∀j (h1:j < us.toArray.size) (h2:j < ws.toArray.size),SeqAt.EqAt A.in1 s us.toArray[j] ws.toArray[j] true:=λj h1 h2=>by
  have j1:j < us.length:=by simpa using h1
  have j2:j < ws.length:=by simpa using h2
  obtain ⟨u,hu,ru⟩:=r1.get (i:=j) (x:=xs[j]'(by lia)) (by simp);obtain ⟨w,hw,rw'⟩:=r2.get (i:=j) (x:=ys[j]'(by lia)) (by simp);have ga:=iP pa (i:=j) (by lia) (by lia);have gb:=iP pb (i:=j) (by lia) (by lia)
  have eu:us.toArray[j]=u:=by
   rw[af j1] at hu;simpa using hu
  have ew:ws.toArray[j]=w:=by
   rw[af j2] at hw;simpa using hw
  rw[eu,ew];cases e:ds[j]'(by lia) with
  | inl r =>
   rw[e] at ga gb;have q:=yH.eq (A:=A.in1) I ru rw' ga gb (by show A.units+1+2 < cLine;lia);rwa [decide_eq_true rfl] at q
  | inr g =>
   rw[e] at ga gb;have q:=Bp.eq (A:=A.in1) I ru rw' ga gb (by show A.units+1+3 < cLine;lia);rwa [decide_eq_true rfl] at q
 have al:∀n,(List.range n).all (λ_=>true)=true:=λn=>by simp
 have z:=SeqAt.RcAt.lists (A:=A) (e:=λ_=>true) t1.isList t2.isList (by simp;lia) (by lia) it;have z2:=SeqAt.RcNeAt.lists (A:=A) (e:=λ_=>true) t1.isList t2.isList (by simp;lia) (by lia) it;rw[al] at z z2;exact ⟨z,z2⟩
def kLi (ds:List (List Rat ⊕ LR9)):Kind Unit where
 R:=λK H x _=>∃p xs,x=.ref p/\bF K H p xs/\Paired (VT K H) ds xs
 d:=10
 inj:=λ_ _ _=>rfl
 rc:=λ{X pins σ H s x y v u _ _ A} I rx ry h1 h2 hA=>by
  obtain ⟨p,xs,rfl,hp,pa⟩:=h1;obtain ⟨q,ys,rfl,hq,pb⟩:=h2;cases rx;cases ry;exact (Og I hp hq pa pb hA).1
 ne:=λ{X pins σ H s x y v u _ _ A} I rx ry h1 h2 hA=>by
  obtain ⟨p,xs,rfl,hp,pa⟩:=h1;obtain ⟨q,ys,rfl,hq,pb⟩:=h2;cases rx;cases ry;exact (Og I hp hq pa pb hA).2
 eq:=λ{X pins σ H s x y v u _ _ A} I rx ry h1 h2 hA=>by
  obtain ⟨p,xs,rfl,hp,pa⟩:=h1;obtain ⟨q,ys,rfl,hq,pb⟩:=h2;cases rx;cases ry;by_cases e:p=q
  ·subst e;exact SeqAt.EqAt.same _
  ·exact .of_refs e (Og I hp hq pa pb hA).1
inductive Nj (K:FG9) (C:Addr) (vs:List V) (H:Hp) (Q:VK) (E9:XK):Prop
 | mk (x q s g p y:Addr) (T:Nat) (H0 H1:Hp) (mv pt lk pus:LR9) (ws st go pr:List Rat):vs=[.ref x,.ref q,.ref s,.ref g,.ref p,.ref y]->jB K H0 H C x mv pt lk->fk mv pt lk->IM mv pt lk->cz K H q ws->ws.length=pt.length->cz K H s st->st.length=mv.length->cz K H g go->bB K H1 H p pus->T<=12->cz K H y pr->QU mv pt ws st T pus pr->(∀b H',aI H H'->(b=true↔tV mv pt st pus T=go/\Vf mv pt ws pus pr)->Q (.bl b) H')->Nj K C vs H Q E9
inductive Kl (K:FG9) (vs:List V) (H:Hp) (Q:VK) (E9:XK):Prop
 | mk (r q p y:Addr) (T:Nat) (H0 H1:Hp) (mv pt lk pus:LR9) (ws st pr:List Rat):vs=[.ref r,.ref q,.ref p,.ref y]->fW K H0 H r mv pt lk->fk mv pt lk->T8 mv pt T->cz K H q ws->ws.length=pt.length->bB K H1 H p pus->T<=12->cz K H y pr->QU mv pt ws st T pus pr->(∀b H',aI H H'->(b=true↔Vf mv pt ws pus pr)->Q (.bl b) H')->Kl K vs H Q E9
inductive C3 (K:FG9) (C:Addr) (vs:List V) (H:Hp) (Q:VK) (E9:XK):Prop
 | mk (x:Addr) (a c:Nat) (H0:Hp) (mv pt lk:LR9):vs=[.ref x]->jB K H0 H C x mv pt lk->fk mv pt lk->vI mv pt a c->(∀t r q N H',H' t=some (.tup [.ref r,.ref q])->aI H H'->H r=none->bB K H H' r N->N.length<=mv.length->(∀xs∈N,xs.length=mv.length)->(∃M,0 < M/\M<=2^1740/\∀xs∈N,∀x∈xs,Tp M (2^1740) x)->Q (.ref t) H')->C3 K C vs H Q E9
def kO (K:FG9) (A:Addr->Prop) (mv pt:LR9) (T:Nat) (H:Hp) (v:V):Prop:=∃t p y pus pr us,v=.ref t/\H t=some (.tup [.ref p,.ref y])/\A p/\A y/\H p=some (.lst us)/\Paired (Fo K A H) pus us/\V.ref p∉us/\cz K H y pr/\pus.length=T/\(∀xs∈pus,xs.length=pt.length)/\GB (1000*40) (1000*40) pus/\pr.length=mv.length/\QV pr
section
variable {K:FG9} {A A':Addr->Prop} {mv pt:LR9} {T:Nat} {H H':Hp} {v:V} {b l:Addr}
theorem kO.same (h:kO K A mv pt T H v) (s:aI H H'):kO K A mv pt T H' v:=by
 obtain ⟨t,p,y,pus,pr,us,e,gt,ap,ay,gp,q,nn,R,r⟩:=h;exact ⟨t,p,y,pus,pr,us,e,s _ _ gt,ap,ay,s _ _ gp,Paired.imp' (λ_ _ ⟨a,b,c,d⟩=>⟨a,b,c,d.same s⟩) q,nn,R.same s,r⟩
theorem kO.upto (h:kO K A mv pt T H v) (u:cI b H H') (B:gh H b) (nb:¬A b):kO K A mv pt T H' v:=by
 obtain ⟨t,p,y,pus,pr,us,e,gt,ap,ay,gp,q,nn,R,r⟩:=h;exact ⟨t,p,y,pus,pr,us,e,u.tup B gt,ap,ay,u.other (λz=>nb (by rw[<- z];exact ap)) gp,Paired.imp' (λ_ _ ⟨a,b,c,d⟩=>⟨a,b,c,d.upto u B λz=>nb (by rw[<- z];exact c)⟩) q,nn,R.upto u B λz=>nb (by rw[<- z];exact ay),r⟩
theorem kO.updL (h:kO K A mv pt T H v) (g:H l=some (.lst ys)) (nl:¬A l):kO K A mv pt T (upd H l o) v:=by
 obtain ⟨t,p,y,pus,pr,us,e,gt,ap,ay,gp,q,nn,R,r⟩:=h;exact ⟨t,p,y,pus,pr,us,e,by rw[bD λz=>by rw[z,g] at gt;cases gt];exact gt,ap,ay,by rw[bD λz=>nl (by rw[<- z];exact ap)];exact gp,Paired.imp' (λ_ _ ⟨a,b,c,d⟩=>⟨a,b,c,d.updL g λz=>nl (by rw[<- z];exact c)⟩) q,nn,R.updL g λz=>nl (by rw[<- z];exact ay),r⟩
theorem kO.weak (h:kO K A mv pt T H v) (w:∀q,A q->A' q):kO K A' mv pt T H v:=by
 obtain ⟨t,p,y,pus,pr,us,e,gt,ap,ay,gp,q,nn,R,r⟩:=h;exact ⟨t,p,y,pus,pr,us,e,gt,w _ ap,w _ ay,gp,Paired.imp' (λ_ _ ⟨a,b,c,d⟩=>⟨a,b,w _ c,d⟩) q,nn,R,r⟩
theorem UR (gt:H t=some (.tup [.ref p,.ref y])) (Gp:bB K H0 H p pus) (Ry:cz K H y pr) (ap:A p) (ay:A y) (w:∀q zs,H0 q=none->H q=some (.lst zs)->A q) (lp:pus.length=T) (wp:∀xs∈pus,xs.length=pt.length) (gb:GB (1000*40) (1000*40) pus) (lr:pr.length=mv.length) (hr:QV pr):kO K A mv pt T H (.ref t):=by
 obtain ⟨us,g,q,nn⟩:=Gp;exact ⟨t,p,y,pus,pr,us,rfl,gt,ap,ay,g,Paired.imp' (λ_ _ ⟨a,b,c,d⟩=>⟨a,b,by obtain ⟨zs,gz,_⟩:=id d;exact w a zs c gz,d⟩) q,nn,Ry,lp,wp,gb,lr,hr⟩
end
theorem Ss {K:FG9} {pus:LR9} (h:Paired (Fo K A H) pus us):Paired (cY K (λ_=>none) H) pus us:=Paired.imp' (λ_ _ ⟨a,b,_,d⟩=>⟨a,b,rfl,d⟩) h
theorem U2 (h0:0<=v) (h1:v < 3):∃q:Rat,((1,1+v):Int×Int)=nm q/\Fr 6 1 q:=by
 have:v=0\/v=1\/v=2:=by lia
 rcases this with rfl | rfl | rfl
 ·exact ⟨1,rfl,⟨6,by decide +kernel,by decide⟩⟩
 ·exact ⟨1 / 2,by decide +kernel,⟨3,by decide +kernel,by decide⟩⟩
 ·exact ⟨1 / 3,by decide +kernel,⟨2,by decide +kernel,by decide⟩⟩
abbrev OY (pr:List Rat):Prop:=lA (1000*28+300) (1000*28+300) pr
section
variable {pr xs:List Rat} {w:Nat}
theorem OY.up (h:OY pr):QV pr:=by
 obtain ⟨M,W,a,b,c,d⟩:=h;exact ⟨M,W,a,ag b (p2 (by decide)),ag c (p2 (by decide)),d⟩
theorem OY.szn (h:OY pr):∀x∈pr,kN x:=λx hx=>by
 obtain ⟨M,W,a,b,c,d⟩:=h;exact sV a b c (by decide) (d x hx)
theorem NM (h:∀x∈xs,Dr (max w 6) x) (hw:w<=1000000) (hl:xs.length<=8):QV xs:=by
 obtain ⟨B,b0,b1,f⟩:=tP (c:=20) (l:=xs) (λx hx=>⟨ag (h x hx).1 (by have:(2:Nat)^20=1048576:=rfl;lia),ag (h x hx).2 (by have:(2:Nat)^20=1048576:=rfl;lia)⟩) (by decide);exact ⟨B,2^22,b0,ag b1 (p2 (by lia)),p2 (by decide),f⟩
theorem Ql (h:OY pr) (m0:0 < M) (mb:M<=2^1740) (hx:∀x∈xs,Tp M (2^1740) x):QV (List.zipWith (λu v=>u+v) pr xs):=by
 obtain ⟨N,W,a,b,c,d⟩:=h;refine ⟨N*M,W+2^1740,a8 a m0,ag (ax b mb) (by rw[<- aF];exact p2 (by decide)),?_,λx hx'=>?_⟩
 ·refine ag (RS c (p2 (show 1740<=1000*28+300 by decide))) ?_;rw[<- Nat.two_mul,cg,<- d5];exact p2 (by decide)
 ·obtain ⟨i,hi,rfl⟩:=bN hx';rw[dC];exact ((d _ (aM _)).scale M).add (((hx _ (aM _)).fr m0).scaleL N)
theorem Qk (h:OY pr) (hx:x∈pr) (hq:Fr 6 1 q):QV (pr.set j (x+q)):=by
 obtain ⟨N,W,a,b,c,d⟩:=h;refine ⟨N*6,W+1,a8 a (by decide),ag (ax b (show 6<=2^3 by decide)) (by rw[<- aF];exact p2 (by decide)),?_,λz hz=>?_⟩
 ·refine ag (RS c (cA (n:=1000*28+300))) ?_;rw[<- Nat.two_mul,cg,<- d5];exact p2 (by decide)
 ·rcases cy hz with z1 | z1
  ·exact ((d z z1).scale 6).mono (MR _ _)
  ·rw[z1];exact ((d x hx).scale 6).add (hq.scaleL N)
end
theorem QD (h:GB (1000*28+300) (1000*28+300) a) (hq:Fr 6 1 q) (h':∀xs∈a',∀z∈xs,∃ys∈a,∃x∈ys,z=x\/z=x+q):GB (1000*40) (1000*40) a':=by
 obtain ⟨N,n0,nb,d⟩:=h;refine ⟨N*6,a8 n0 (by decide),ag (ax nb (show 6<=2^3 by decide)) (by rw[<- aF];exact p2 (by decide)),λxs hx z hz=>?_⟩;obtain ⟨ys,hy,x,hx',e⟩:=h' xs hx z hz;have f:=(d ys hy x hx').scale 6;rcases e with rfl | rfl
 ·exact f.mono (p2 (by decide))
 ·refine (f.add (hq.scaleL N)).mono (ag (Nat.add_le_add_left (cA (n:=1000*28+300)) _) ?_) (V':=2^(1000*40));rw[<- Nat.two_mul,cg,<- d5];exact p2 (by decide)
inductive F2 (K:FG9) (C:Addr) (vs:List V) (H:Hp) (Q:VK) (E9:XK):Prop
 | mk (b x p y:Addr) (T a c w:Nat) (H0 H1:Hp) (mv pt lk pus:LR9) (pr:List Rat):vs=[.ref b,.ref x,.ref p,.ref y,.int w]->gh H b->H0 b≠none->H1 b≠none->jB K H0 H C x mv pt lk->fk mv pt lk->vI mv pt a c->1<=w->w<=1000000->p≠b->y≠b->bB K H1 H p pus->cz K H y pr->pus.length=T->T<=12->(∀xs∈pus,xs.length=pt.length)->GB (1000*28+300) (1000*28+300) pus->pr.length=mv.length->lA (1000*28+300) (1000*28+300) pr->(∀l us H',H l=none->cI b H H'->gh H' b->H' l=some (.lst us)->us.length<=20->(∀u∈us,kO K (λq=>q≠b) mv pt T H' u)->Q (.ref l) H')->F2 K C vs H Q E9
end L2
open L2
local macro_rules | `(tactic| walk_at "hl") => `(tactic| first | (show _ ≤ sizeLine; with_unfolding_all decide) | (with_unfolding_all exact (by decide)))
local macro_rules | `(tactic| walk_at "sq") => `(tactic| first | with_reducible assumption | with_reducible exact uQ.of (by assumption) | with_reducible exact bF.of (by assumption) | with_reducible exact uQ.of aJ | with_reducible exact bF.of aJ | assumption)
local macro_rules | `(tactic| walk_at "sc") => `(tactic| first | (with_reducible show (0 : Int) < _; decide) | with_reducible exact QL (by decide) (by decide) | with_reducible exact Fj (by decide) (by decide) | with_reducible exact cpow_of (by decide) (by decide) (by decide))
local macro_rules | `(tactic| walk_at "rd") => `(tactic| first
  | with_reducible refine Sy ?_
  | with_reducible refine PU ?_
  | with_reducible refine SX ?_
  | with_reducible refine NJ ?_
  | ((with_reducible refine' Sv ?hx1 ?_); (case hx1 => with_unfolding_all rfl))
  | with_reducible refine VG ?_
  | with_reducible refine UG ?_
  | with_reducible refine UL ?_
  | with_reducible refine Uy ?_
  | with_reducible refine VH ?_
  | with_reducible refine SV ?_
  | with_reducible refine SJ ?_
  | with_reducible refine SU ?_
  | with_reducible refine SI ?_
  | with_reducible refine rd_eqB ?_
  | with_reducible refine rd_neB ?_
  | with_reducible refine PY ?_
  | with_reducible refine Jo ?_
  | with_reducible refine SS ?_
  | with_reducible refine PM ?_
  | with_reducible refine PV ?_
  | with_reducible refine PX ?_
  | with_reducible refine NI ?_
  | with_reducible refine PL ?_
  | with_reducible refine Uz ?_
  | with_reducible refine SA ?_
  | with_reducible refine rd_retN ?_
  | with_reducible refine SN ?_
  | with_reducible refine SY ?_
  | with_reducible refine UE ?_
  | with_reducible refine SG ?_
  | with_reducible refine Qd ?_
  | with_reducible refine rd_orV ?_
  | with_reducible refine PR ?_
  | with_reducible refine SO ?_
  | with_reducible refine Su ?_
  | with_reducible refine Tq ?_
  | with_reducible refine UZ ?_
  | with_reducible refine U0 ?_
  | with_reducible refine U1 ?_
  | with_reducible refine Ri ?_
  | with_reducible refine SH ?_
  | with_reducible refine P9 ?_
  | with_reducible refine Sw ?_
  | with_reducible refine SK ?_
  | with_reducible refine Qb ?_
  | with_reducible refine UJ ?_
  | with_reducible refine P8 ?_
  | with_reducible refine SD ?_
  | with_reducible refine Qc ?_
  | ((with_reducible refine' rd_aug ?hx1 ?_); (case hx1 => with_unfolding_all rfl))
  | with_reducible refine SM ?_
  | with_reducible refine P0 ?_
  | with_reducible refine NK ?_
  | with_reducible refine P6 ?_
  | with_reducible refine UC ?_
  | with_reducible refine LU ?_
  | with_reducible refine PN ?_
  | with_reducible refine SQ ?_
  | with_reducible refine NH ?_
  | with_reducible refine rd_iTup ?_
  | with_reducible refine NF ?_
  | with_reducible refine ND ?_
  | ((with_reducible refine' Qa ?hx1 ?_); (case hx1 => with_unfolding_all rfl))
  | with_reducible refine PK ?_
  | with_reducible refine UK ?_
  | with_reducible refine rd_bm0 ?_
  | with_reducible refine rd_brk ?_
  | ((with_reducible refine' PZ ?hx1 ?hx2 ?_); (case hx1 => walk_at "sq"); (case hx2 => with_unfolding_all rfl))
  | with_reducible refine rd_cont ?_
  | ((with_reducible refine' fY ?hx1 ?_); (case hx1 => walk_at "sc"))
  | ((with_reducible refine' Jp ?hx1 ?hx2 ?_); (case hx1 => walk_at "sq"); (case hx2 => with_unfolding_all rfl))
  | ((with_reducible refine' cn ?hx1 ?hx2 ?_); (case hx1 => walk_at "sq"); (case hx2 => with_unfolding_all rfl))
  | ((with_reducible refine' P7 ?hx1 ?hx2 ?_); (case hx1 => walk_at "sq"); (case hx2 => with_unfolding_all rfl))
  | ((with_reducible refine' eN ?hx1 ?hx2 ?hx3 ?_); (case hx1 => with_reducible first | assumption | exact aJ); (case hx2 => with_unfolding_all rfl); (case hx3 => with_unfolding_all rfl))
  | with_reducible refine ⟨_, rfl, ?_⟩
  | with_reducible refine ⟨_, _, rfl, ?_⟩)
local macro_rules | `(tactic| walk_at "w") => `(tactic| repeat walk_at "rd")
local macro_rules | `(tactic| walk_at "d") => `(tactic| exact ⟨rfl,rfl,rfl,by decide +kernel,rfl,by decide +kernel,by decide +kernel⟩)
namespace Lw
open PySem PySem.Spec PyProof.Rows L2 Nm
local macro_rules | `(tactic| exists $e) => `(tactic| (walk_at "w";refine $e))
set_option maxHeartbeats 4000000
def top (i:Nat):Stmt:=PySem.Challenge.pw_helmsum_k63_papers_of_least.main.body.getD i (.Pass ⟨0,0,0,0⟩)
abbrev vm:Stmt:=top 73
abbrev rK:Stmt:=top 74
abbrev lJ:Stmt:=top 87
abbrev rS:Stmt:=top 89
abbrev ve:Stmt:=top 75
abbrev vb:Stmt:=top 76
abbrev rN:Stmt:=top 81
abbrev rM:Stmt:=top 77
abbrev xQ:Stmt:=top 82
abbrev pF:Stmt:=top 84
abbrev kh:Stmt:=top 90
abbrev nX:Stmt:=top 78
abbrev vd:Stmt:=top 79
abbrev rQ:Stmt:=top 83
abbrev pC:Stmt:=top 85
abbrev nV:Stmt:=top 91
abbrev rn:Stmt:=top 69
abbrev uZ:Stmt:=top 9
abbrev kg:Stmt:=top 10
abbrev rF:Stmt:=top 12
abbrev AI:Stmt:=top 18
abbrev nU:Stmt:=top 70
abbrev eK:Stmt:=inClass (top 71) 0
abbrev nY:Stmt:=top 86
abbrev rR:Stmt:=top 92
abbrev ma:Stmt:=top 98
abbrev pA:Stmt:=top 93
abbrev rL:Stmt:=top 94
abbrev vh:Stmt:=top 80
abbrev xP:Stmt:=top 88
abbrev rO:Stmt:=top 95
abbrev vf:Stmt:=top 96
abbrev jM:Stmt:=top 11
abbrev kU:Stmt:=top 20
abbrev rB:Stmt:=top 21
abbrev AG:Stmt:=top 13
abbrev xG:Stmt:=top 22
abbrev xN:Stmt:=top 26
abbrev o9:Stmt:=top 49
abbrev rH:Stmt:=top 50
abbrev EI:Stmt:=top 14
abbrev rD:Stmt:=top 19
abbrev nQ:Stmt:=top 27
abbrev gK:Stmt:=inClass (top 71) 1
abbrev AJ:Stmt:=top 32
abbrev o8:Stmt:=top 23
abbrev nN:Stmt:=top 53
abbrev xM:Stmt:=top 54
abbrev ph:Stmt:=top 37
abbrev xO:Stmt:=top 39
abbrev pk:Stmt:=top 38
abbrev EE:Stmt:=top 40
abbrev AD:Stmt:=top 43
abbrev EG:Stmt:=top 44
abbrev Jj:Stmt:=top 29
abbrev pe:Stmt:=top 28
abbrev AE:Stmt:=top 16
abbrev rE:Stmt:=top 57
abbrev AH:Stmt:=top 59
abbrev Jk:Stmt:=top 55
abbrev xI:Stmt:=top 58
abbrev EJ:Stmt:=top 60
abbrev fI:Stmt:=inClass (top 71) 3
abbrev ED:Stmt:=top 15
abbrev iE:Stmt:=inClass (top 71) 2
abbrev va:Stmt:=top 61
abbrev xH:Stmt:=top 41
abbrev nM:Stmt:=top 51
abbrev o7:Stmt:=top 52
abbrev uY:Stmt:=top 24
abbrev kT:Stmt:=top 34
abbrev xK:Stmt:=top 35
abbrev xJ:Stmt:=top 45
abbrev nR:Stmt:=top 36
abbrev EH:Stmt:=top 46
abbrev o6:Stmt:=top 63
abbrev rz:Stmt:=top 64
abbrev nW:Stmt:=top 100
abbrev pG:Stmt:=top 97
abbrev rJ:Stmt:=top 99
abbrev Nw:Stmt:=top 101
set_option genInjectivity false in
set_option genSizeOf false in
structure Ads where
 Cf:Addr
 BR:FuncData
 zi:Addr
 yQ:FuncData
 xm:Addr
 wO:FuncData
 zB:Addr
 yX:FuncData
 Cc:Addr
 BO:FuncData
 Ca:Addr
 BM:FuncData
 zo:Addr
 yT:FuncData
 zm:Addr
 yS:FuncData
 D9:Addr
 DQ:FuncData
 xo:Addr
 wU:FuncData
 oT:Addr
 oO:FuncData
 uO:Addr
 uv:FuncData
 Cb:Addr
 BN:FuncData
 zy:Addr
 yV:FuncData
 xn:Addr
 wQ:FuncData
 uM:Addr
 ur:FuncData
 yZ:Addr
 yI:FuncData
 BY:Addr
 BK:FuncData
 oS:Addr
 oN:FuncData
 zf:Addr
 yN:FuncData
 Ir:Addr
 Ia:FuncData
 uL:Addr
 uq:FuncData
 j5:Addr
 jZ:FuncData
 uP:Addr
 uw:FuncData
 zA:Addr
 yW:FuncData
 tq:Addr
 td:FuncData
 xl:Addr
 wN:FuncData
 zj:Addr
 yR:FuncData
 Ce:Addr
 BQ:FuncData
 D8:Addr
 DP:FuncData
 zx:Addr
 yU:FuncData
 Cd:Addr
 BP:FuncData
 ng:Addr
 mY:FuncData
 qN:Addr
 qK:FuncData
 y9:Addr
 yK:FuncData
 Ip:Addr
 HY:FuncData
 yk:Addr
 yg:FuncData
 yl:Addr
 yh:FuncData
 xf:Addr
 wJ:FuncData
 zg:Addr
 yO:FuncData
 Lv:Addr
 Lk:FuncData
 za:Addr
 yL:FuncData
 uJ:Addr
 uk:FuncData
 mF:Addr
 mD:FuncData
 Iu:Addr
 Ib:FuncData
 xc:Addr
 wI:FuncData
 uI:Addr
 uj:FuncData
 D6:Addr
 DN:FuncData
 xh:Addr
 wL:FuncData
 D7:Addr
 DO:FuncData
 xj:Addr
 wM:FuncData
 Lr:Addr
 Lh:FuncData
 Im:Addr
 HW:FuncData
 Ls:Addr
 Li:FuncData
 OW:Addr
 OM:FuncData
 xg:Addr
 wK:FuncData
 Io:Addr
 HX:FuncData
 zb:Addr
 yM:FuncData
 Iq:Addr
 HZ:FuncData
 OX:Addr
 ON:FuncData
 D3:Addr
 DK:FuncData
 Lx:Addr
 Ll:FuncData
 lh:Addr
 k9:FuncData
 Lq:Addr
 Lg:FuncData
 oA:Addr
 oz:FuncData
 BZ:Addr
 BL:FuncData
 DZ:Addr
 DJ:FuncData
 uH:Addr
 ui:FuncData
 xa:Addr
 wH:FuncData
 BX:Addr
 BJ:FuncData
 qM:Addr
 qJ:FuncData
 D5:Addr
 DM:FuncData
 D4:Addr
 DL:FuncData
 uK:Addr
 uo:FuncData
 Lu:Addr
 Lj:FuncData
 wZ:Addr
 wF:FuncData
 y7:Addr
 yJ:FuncData
 uN:Addr
 uu:FuncData
 xp:Addr
 wV:FuncData
 zh:Addr
 yP:FuncData
 RL:Addr
 RK:FuncData
 a_NOUGHT:Addr
 a_ONE:Addr
 t_MOST_STATES:Tok
 t_MOST_PUTS:Tok
 t_MOST_LOOKS:Tok
 a_System:Addr
structure Txt (K:W.Frag) (mg:Str->Option Value) (Z:Ads):Prop where
 sv:Df K mg "_law_bag" vm ["_law_script"] Z.Cf Z.BR
 aR:Df K mg "_law_take" rK ["_law_bag_here","_law_many"] Z.zi Z.yQ
 ow:Df K mg "_law_sizes" lJ ["_law_bag_here"] Z.xm Z.wO
 jW:Df K mg "_law_line" rS ["_law_bag_here","_law_n"] Z.zB Z.yX
 iV:Df K mg "_law_low" ve ["_law_top","_law_bottom"] Z.Cc Z.BO
 gZ:Df K mg "_law_sum" vb ["_law_one","_law_other"] Z.Ca Z.BM
 jV:Df K mg "_law_plus" rN ["_law_one","_law_other"] Z.zo Z.yT
 ig:Df K mg "_law_prod" rM ["_law_one","_law_other"] Z.zm Z.yS
 p5:Df K mg "_law_by" xQ ["_law_by_here","_law_row_here"] Z.D9 Z.DQ
 kD:Df K mg "_law_mixed" pF ["_law_bag_here","_law_move_here","_law_put","_law_look"] Z.xo Z.wU
 jU:Df K mg "_law_two_lines" kh ["_law_bag_here"] Z.oT Z.oO
 mC:Df K mg "_law_number" nX ["_law_bag_here","_law_wide"] Z.uO Z.uv
 fN:Df K mg "_law_row" vd ["_law_bag_here","_law_many","_law_wide"] Z.Cb Z.BN
 pY:Df K mg "_law_move" rQ ["_law_bag_here","_law_n","_law_way","_law_first","_law_wide"] Z.zy Z.yV
 ox:Df K mg "_law_parts" pC ["_law_bag_here","_law_n","_law_ins","_law_outs","_law_wide"] Z.xn Z.wQ
 my:Df K mg "_law_system" nV ["_law_bag_here"] Z.uM Z.ur
 jS:Df K mg "want_list" rn ["thing","at","most"] Z.yZ Z.yI
 mU:Df K mg "is_whole" uZ ["thing"] Z.BY Z.BK
 fM:Df K mg "common_divisor" kg ["one","other"] Z.oS Z.oN
 pS:Df K mg "is_number" rF ["thing"] Z.zf Z.yN
 xZ:Df K mg "is_row" AI ["thing","many"] Z.Ir Z.Ia
 iU:Df K mg "copied_rows" nU ["things","wide"] Z.uL Z.uq
 j3:Binds K Z.jZ ["self","move","put","look"] []
 ni:MP K "__init__" "System.__init__" eK Z.j5 Z.jZ
 iW:Df K mg "_law_copied" nY ["_law_grid"] Z.uP Z.uw
 pZ:Df K mg "_law_made" rR ["_law_parts_here"] Z.zA Z.yW
 kY:Df K mg "_law_weights" ma ["_law_bag_here","_law_many","_law_begin"] Z.tq Z.td
 ou:Df K mg "_law_steps" pA ["_law_bag_here","_law_parts_here"] Z.xl Z.wN
 pV:Df K mg "_law_puts" rL ["_law_bag_here","_law_parts_here","_law_steps_here","_law_wide"] Z.zj Z.yR
 mW:Df K mg "_law_dot" vh ["_law_one","_law_other"] Z.Ce Z.BQ
 pW:Df K mg "_law_on" xP ["_law_grid","_law_row_here"] Z.D8 Z.DP
 pX:Df K mg "_law_next" rO ["_law_parts_here","_law_state","_law_puts_here"] Z.zx Z.yU
 kM:Df K mg "_law_end" vf ["_law_parts_here","_law_start","_law_rows"] Z.Cd Z.BP
 jz:Df K mg "common_multiple" jM ["wholes"] Z.ng Z.mY
 d7:Df K mg "common_bottom" kU ["row"] Z.qN Z.qK
 ie:Df K mg "tops_over" rB ["row","bottom"] Z.y9 Z.yK
 ja:Df K mg "lowest" AG ["top","bottom"] Z.Ip Z.HY
 jy:Df K mg "row_dot" xG ["one","other"] Z.yk Z.yg
 iT:Df K mg "grid_on" xN ["grid","row"] Z.yl Z.yh
 kB:Df K mg "moved_rows" o9 ["system","rows"] Z.xf Z.wJ
 pT:Df K mg "additions" rH ["system","steps"] Z.zg Z.yO
 wg:Df K mg "minus" EI ["one","other"] Z.Lv Z.Lk
 pP:Df K mg "row_minus" rD ["one","other"] Z.za Z.yL
 fD:Df K mg "grid_turned" nQ ["grid","wide"] Z.uJ Z.uk
 qI:MB K Z.a_System "moved" Z.mF
 tm:Binds K Z.mD ["self","state","puts"] []
 tz:MP K "moved" "System.moved" gK Z.mF Z.mD
 tL:Df K mg "course" AJ ["system","start","puts"] Z.Iu Z.Ib
 jm:Df K mg "nought_row" o8 ["many"] Z.xc Z.wI
 mo:Df K mg "nothing_for" nN ["system","steps"] Z.uI Z.uj
 vF:Df K mg "lacking" xM ["system","start","goal","steps"] Z.D6 Z.DN
 oo:Df K mg "first_with" ph ["lines","begin","place"] Z.xh Z.wL
 vG:Df K mg "cleared" xO ["lines","at","place","before"] Z.D7 Z.DO
 ot:Df K mg "brought_up" pk ["lines","at","to"] Z.xj Z.wM
 we:Df K mg "swept" EE ["rows","wide"] Z.Lr Z.Lh
 tK:Df K mg "solved" AD ["rows","wide","due"] Z.Im Z.HW
 Bf:Df K mg "solve" EG ["rows","wide","due"] Z.Ls Z.Li
 zT:Df K mg "flat" Jj ["lists"] Z.OW Z.OM
 kC:Df K mg "grid_times" pe ["one","other","wide"] Z.xg Z.wK
 xX:Df K mg "parted" AE ["one","other"] Z.Io Z.HX
 lQ:Df K mg "parted_by" rE ["weights","row"] Z.zb Z.yM
 xY:Df K mg "led_to" AH ["weights","lists","wide"] Z.Iq Z.HZ
 E4:Df K mg "come" Jk ["system","start","goal","steps"] Z.OX Z.ON
 vD:Df K mg "puts_at" xI ["price","weights","lists"] Z.D3 Z.DK
 Bh:Df K mg "least" EJ ["system","weights","start","goal","steps"] Z.Lx Z.Ll
 oJ:MB K Z.a_System "turned" Z.lh
 qL:Binds K Z.k9 ["self"] []
 qO:MP K "turned" "System.turned" fI Z.lh Z.k9
 Be:Df K mg "times" ED ["one","other"] Z.Lq Z.Lg
 sL:MB K Z.a_System "seen" Z.oA
 uF:Binds K Z.oz ["self","state"] []
 uT:MP K "seen" "System.seen" iE Z.oA Z.oz
 mV:Df K mg "is_least" va ["system","weights","start","goal","puts","price"] Z.BZ Z.BL
 pQ:Df K mg "reduced" xH ["rows","wide"] Z.DZ Z.DJ
 mi:Df K mg "reach_grown" nM ["system","steps"] Z.uH Z.ui
 oj:Df K mg "reach_rows" o7 ["system","steps"] Z.xa Z.wH
 so:Df K mg "unit_row" uY ["many","at"] Z.BX Z.BJ
 kr:Df K mg "leading_place" kT ["row"] Z.qM Z.qJ
 pR:Df K mg "leading" xK ["rows"] Z.D5 Z.DM
 vE:Df K mg "null_at" xJ ["rows","wide","at"] Z.D4 Z.DL
 jT:Df K mg "free_places" nR ["rows","wide"] Z.uK Z.uo
 Bg:Df K mg "nulls" EH ["rows","wide"] Z.Lu Z.Lj
 oi:Df K mg "taken_over" o6 ["system","rows"] Z.wZ Z.wF
 pO:Df K mg "unsteered" rz ["system"] Z.y7 Z.yJ
 mB:Df K mg "_law_papers" nW ["_law_bag_here","_law_system_here","_law_puts_here","_law_price","_law_wide"] Z.uN Z.uu
 oy:Df K mg "_law_added" pG ["_law_parts_here","_law_steps_here"] Z.xp Z.wV
 pU:Df K mg "_law_tied" rJ ["_law_parts_here","_law_weights_here","_law_puts_here","_law_price"] Z.zh Z.yP
 RN:MP K "law" "law" Nw Z.RL Z.RK
 abs:mg "abs"=none
 len:mg "len"=none
 min:mg "min"=none
 int:mg "int"=none
 range:mg "range"=none
 isinstance:mg "isinstance"=none
 list:mg "list"=none
 bool:mg "bool"=none
 tuple:mg "tuple"=none
 all:mg "all"=none
 enumerate:mg "enumerate"=none
 max:mg "max"=none
 zip:mg "zip"=none
 sum:mg "sum"=none
 reversed:mg "reversed"=none
 mg_NOUGHT:mg "NOUGHT"=some (.ref Z.a_NOUGHT)
 sq_NOUGHT:∀H,uQ K H Z.a_NOUGHT [.int 0,.int 1]
 mg_ONE:mg "ONE"=some (.ref Z.a_ONE)
 sq_ONE:∀H,uQ K H Z.a_ONE [.int 1,.int 1]
 mg_MOST_STATES:mg "MOST_STATES"=some (.int 8 Z.t_MOST_STATES)
 mg_MOST_PUTS:mg "MOST_PUTS"=some (.int 4 Z.t_MOST_PUTS)
 mg_MOST_LOOKS:mg "MOST_LOOKS"=some (.int 4 Z.t_MOST_LOOKS)
 mg_System:mg "System"=some (.ref Z.a_System)
 cl_System:MG K Z.a_System
 na_move:j6 K Z.a_System "move"
 na_states:j6 K Z.a_System "states"
 na_put:j6 K Z.a_System "put"
 na_ins:j6 K Z.a_System "ins"
 na_look:j6 K Z.a_System "look"
 na_outs:j6 K Z.a_System "outs"
 mk_System:Mk K Z.a_System Z.j5
section
variable {P:Program} {w:World} {K:W.Frag} {mg:Str->Option Value} {base:Heap} {Z:Ads}
theorem Gv:aU ["_law_script"] ["_law_script"] (aN vm):=by walk_at "d"
theorem GV (T:Txt K mg Z) (ptree:P.given.tree=none):cK P w K mg base fK 1 Z.Cf Z.BR ["_law_script"] (Nq K):=by
 refine T.sv.F.ok Gv (λvs H Q E h=>?_) (λcdv A outer s H vs Q E hr h=>?_)
 ·obtain ⟨a,ns,rfl,_⟩:=h;rfl
 ·obtain ⟨a,ns,rfl,hS,hlen,k⟩:=h;refine ⟨_,(aA (aV (dc (ae ak (ae ak (ae ak (ae (bX ["_law_cell"] [] [] (cB (GI Ku (pv 0) KE (KD ak))) (λ_=>(aO (i:=0) (show ND9 ["_law_cell"] by decide +kernel))) (λ_=>cw) (λ_=>(bL wX (by rfl) T.abs PyProof.Rows.boot_abs (ae (pv 0) ai)))) ai))))))),?_⟩;refine aQ (σ:=[some (.ref a)]) rfl ?_;exists ⟨a,_,rfl,hS,λl hl=>?_⟩;have hcl:(wW (ns.map V.int) none (some 63)).length<=63:=ag (yY _ _ _) (by simpa using hlen);refine ⟨l,rfl,⟨_,bF.of aJ⟩,?_⟩;refine fJ (K:=K) (a:=l) (xs:=wW (ns.map V.int) none (some 63)) (λi ys H'=>H'=upd H l (.lst (wW (ns.map V.int) none (some 63)))/\∃cs:List Int,ys=cs.map V.int/\∀x∈cs,0<=x) (ag hcl (by decide)) ⟨rfl,[],rfl,λ_ z=>nomatch z⟩ (λi ys H' _ ⟨e,_⟩=>by subst e;exact bF.of aJ) ?_ ?_
  ·rintro i x ys H' hx hi ⟨rfl,cs,rfl,hcs⟩
   obtain ⟨z,rfl⟩:∃z,x=V.int z:=by
    have hm:x∈ns.map V.int:=List.mem_of_mem_drop (cO (ao hx));obtain ⟨z,_,e⟩:=az.mp hm;exact ⟨z,e.symm⟩
   exists ⟨rfl,cs++[if z < 0 then -z else z],by simp,λx hx=>?_⟩;rcases aH.mp hx with hx | hx
   ·exact hcs x hx
   ·have e:x=if z < 0 then -z else z:=by simpa using hx
    subst e
    split <;> lia
  ·rintro ys H' hy ⟨rfl,cs,rfl,hcs⟩ p hp;exists ⟨by show 4<=sizeLine;decide,λb hb=>?_⟩;have n1:b≠p:=λz=>by rw[z,aJ] at hb;cases hb
   have hb1:(upd H l (.lst (wW (ns.map V.int) none (some 63)))) b=none:=by rw[bD n1] at hb;exact hb
   have s1:aI H (upd H l (.lst (wW (ns.map V.int) none (some 63)))):=aI.new hl;refine k b _ (s1.free hb1) ⟨p,0,1234567891,0,cs,aJ,by rw[bD n1.symm];exact aJ,by decide,by decide,by lia,hcs⟩ ((s1.trans (aI.new hp)).trans (aI.new hb))
theorem fg:aU ["_law_bag_here","_law_many","_law_more","_law_cell","_law_value","_law_first","_law_second"] ["_law_bag_here","_law_many"] (aN rK):=by walk_at "d"
theorem dS (T:Txt K mg Z) (ptree:P.given.tree=none):cK P w K mg base fK 1 Z.zi Z.yQ ["_law_bag_here","_law_many"] Po:=by
 refine T.aR.F.ok fg (λvs H Q E h=>?_) (λcdv A outer s H vs Q E hr h=>?_)
 ·obtain ⟨p,n,rfl,_⟩:=h;rfl
 ·obtain ⟨p,n,rfl,⟨q,a,b,c,cs,hp,hq,ha,hc,hcl,hcs⟩,hn,hn2,k⟩:=h;have nqp:q≠p:=Mz hp hq
  refine ⟨_,(gN (dh (bw fH (aW bA (pv 0) ak) ak (bM _)) (ar (aS (i:=2) fg.nd rfl (Or.inl rfl) ak)
   (gN (dh (bw ue (aW bA (pv 0) ak) (bL be (by rfl) T.len a7 (ae (aW bA (pv 0) ak) ai)) (bM _)) (ar (aS (i:=3) fg.nd rfl (Or.inl rfl) (aW bA (aW bA (pv 0) ak) (aW bA (pv 0) ak)))
   (ar (Qj (pv 0) ak Ox ak Tr set_list)
   (ar (dh (bw Dy (pv 3) ak (bM _)) (aA (fB (pv 3) (gP (pv 0) ak set_list))) b8)
   (aA (aS (i:=2) fg.nd rfl (Or.inl rfl) (bI eQ (bI oa (pv 3) ak) ak)))))) b8)
   (aA (fB (bI oa (bI eQ (bI dg (aW bA (pv 0) ak) ak) (pv 2)) ak) (gP (pv 0) ak set_list))))) b8)
   (ar (dh (bw vW (aW bA (pv 0) ak) ak (bM _)) (ar (aS (i:=4) fg.nd rfl (Or.inl rfl) (bI oa (aW bA (pv 0) ak) (pv 1)))
   (ar (fB (bI (iQ rfl fg rfl rfl rfl ptree (sY hr)) (aW bA (pv 0) ak) (pv 1)) (gP (pv 0) ak set_list))
   (aA (aV (pv 4))))) b8)
   (ar (aS (i:=5) fg.nd rfl (Or.inl rfl) (bI oa (bI dg (aW bA (pv 0) ak) ak) ak))
   (ar (aS (i:=6) fg.nd rfl (Or.inl rfl) (bI oa (bI dg (pv 5) ak) ak))
   (ar (dh (bw vW (pv 1) ak (bM _)) (aA (aV (bI oa (bI eQ (bI dg (pv 6) ak) (pv 5)) (pv 1)))) b8)
   (aA (aV (bI oa (bI (iQ rfl fg rfl rfl rfl ptree (sY hr)) (pv 6) ak) (pv 1))))))))),?_⟩
  refine aQ (σ:=[some (.ref p),some (.int n),none,none,none,none,none]) rfl ?_;refine ⟨λσ' H'=>∃(x y:Option V) (a' b' c':Int),σ'=[some (.ref p),some (.int n),x,y,none,none,none]/\H' p=some (.lst [.int a',.int b',.int c',.ref q])/\0<=a'/\0<=c'/\c'<=cs.length/\cI p H H',?_,?_⟩
  ·exists iK (λh0=>?_) (λh0=>?_)
   ·exists ⟨λσ' H'=>∃(m:Int) (y:Option V) (a' c':Int),σ'=[some (.ref p),some (.int n),some (.int m),y,none,none,none]/\H' p=some (.lst [.int a',.int b,.int c',.ref q])/\0<=a'/\0<=c'/\c'<=cs.length/\cI p H H',?_,?_⟩
    ·exists ⟨_,_,rfl,.inl (bF.of hq),?_⟩;exists iK (λh1=>?_) (λh1=>?_)
     ·have h1':c < cs.length:=by simpa using of_decide_eq_true h1
      obtain ⟨z,hz⟩:∃z,cs[c.toNat]?=some z:=⟨_,af (by lia)⟩;have hz0:0<=z:=hcs z (ao hz);exists cn (bF.of hq) (v:=.int z) ?_ ?_
      ·have:=dA (xs:=cs.map V.int) (j:=c.toNat) (v:=.int z) (by rw[aB,hz];rfl);rwa [Int.toNat_of_nonneg hc] at this
      exists iK (λh2=>?_) (λh2=>?_)
      ·exists ⟨_,_,z,c+1,rfl,aJ,hz0,by lia,by lia,(cI.set hp).trans (cI.set aJ)⟩
      ·exists ⟨_,_,a,c+1,rfl,aJ,ha,by lia,by lia,cI.set hp⟩
     ·exists ⟨_,_,a,c,rfl,hp,ha,hc,hcl,cI.refl _⟩
    ·rintro σ' H' ⟨m,y,a',c',rfl,hp',ha',hc',hcl',u'⟩;exists ⟨_,_,a',_,c',rfl,aJ,ha',hc',hcl',u'.trans (cI.set hp')⟩
   ·exists ⟨_,_,a,b,c,rfl,hp,ha,hc,hcl,cI.refl _⟩
  ·rintro σ' H' ⟨x,y,a',b',c',rfl,hp',ha',hc',hcl',u'⟩;have hq':H' q=some (.lst (cs.map V.int)):=u'.1 q _ hq nqp
   have sn:Sz 449950 n:=by
    show n.natAbs < 2^449950
    exact bx (show n.natAbs < 2^64 by lia) (av (by decide) (by decide))
   exists iK (λh0=>?_) (λh0=>?_)
   ·exists fY (show (0:Int) < n from hn) ?_;exists fY (show nv _ _ from ⟨by lia,sn⟩) ?_;exists k _ _ (lV _ (by lia)) (jv _ hn) ⟨q,_,b',c',cs,aJ,by rw[bD nqp];exact hq',?_,hc',hcl',hcs⟩ (u'.trans (cI.set hp'));rw[ck _ (by lia)];exact Int.ediv_nonneg ha' (by lia)
   ·exists iK (λh1=>?_) (λh1=>?_)
    ·exists fY (show (0:Int) < n from hn) ?_;exact k _ _ (lV _ (by lia)) (jv _ hn) ⟨q,a',b',c',cs,hp',hq',ha',hc',hcl',hcs⟩ u'
    ·exists fY (show nv _ _ from ⟨by decide,by show (3:Nat) < 2^449950;exact bx (show 3 < 2^2 by decide) (av (by decide) (by decide))⟩) ?_;exists fY (show (0:Int) < n from hn) ?_;exact k _ _ (lV _ (by lia)) (jv _ hn) ⟨q,a',b',c',cs,hp',hq',ha',hc',hcl',hcs⟩ u'
theorem CM:∃x1 x2 x3 x4 x5 x6 x7 x8 x9 x10 x11 x12 x13 x14 x15 x16:Expr,x1=(Expr.Constant (Const.int 0) 0 ⟨364,16,364,17⟩)/\x2=(Expr.Constant (Const.int 1) 0 ⟨364,19,364,20⟩)/\x3=(Expr.Constant (Const.int 1) 0 ⟨364,22,364,23⟩)/\x4=(Expr.Constant (Const.int 1) 0 ⟨364,25,364,26⟩)/\x5=(Expr.Constant (Const.int 2) 0 ⟨364,28,364,29⟩)/\x6=(Expr.Constant (Const.int 2) 0 ⟨364,31,364,32⟩)/\x7=(Expr.Constant (Const.int 3) 0 ⟨364,34,364,35⟩)/\x8=(Expr.Constant (Const.int 4) 0 ⟨364,37,364,38⟩)/\x9=(Expr.Constant (Const.int 0) 0 ⟨365,17,365,18⟩)/\x10=(Expr.Constant (Const.int 1) 0 ⟨365,20,365,21⟩)/\x11=(Expr.Constant (Const.int 1) 0 ⟨365,23,365,24⟩)/\x12=(Expr.Constant (Const.int 1) 0 ⟨365,26,365,27⟩)/\x13=(Expr.Constant (Const.int 2) 0 ⟨365,29,365,30⟩)/\x14=(Expr.Constant (Const.int 2) 0 ⟨365,32,365,33⟩)/\x15=(Expr.Constant (Const.int 3) 0 ⟨365,35,365,36⟩)/\x16=(Expr.Constant (Const.int 4) 0 ⟨365,38,365,39⟩)/\jb lJ=[ (Stmt.Assign (targets:=[(Expr.Name "_law_n" ⟨361,4,361,10⟩)]) (value:=(Expr.Call (func:=(Expr.Name "_law_take" ⟨361,13,361,22⟩)) (args:=[ (Expr.Name "_law_bag_here" ⟨361,23,361,36⟩),(Expr.Constant (Const.int 5) 0 ⟨361,38,361,39⟩)]) (keywords:=[]) (pos:=⟨361,13,361,40⟩))) (pos:=⟨361,4,361,40⟩)),(Stmt.If (test:=(Expr.Compare (left:=(Expr.Call (func:=(Expr.Name "_law_take" ⟨362,7,362,16⟩)) (args:=[ (Expr.Name "_law_bag_here" ⟨362,17,362,30⟩),(Expr.Constant (Const.int 8) 0 ⟨362,32,362,33⟩)]) (keywords:=[]) (pos:=⟨362,7,362,34⟩))) (ops:=[PySem.CmpOp.Eq]) (comparators:=[(Expr.Constant (Const.int 7) 0 ⟨362,38,362,39⟩)]) (pos:=⟨362,7,362,39⟩))) (body:=[ (Stmt.Assign (targets:=[(Expr.Name "_law_n" ⟨363,8,363,14⟩)]) (value:=(Expr.Constant (Const.int 5) 0 ⟨363,17,363,18⟩)) (pos:=⟨363,8,363,18⟩))]) (orelse:=[]) (pos:=⟨362,4,363,18⟩)),(Stmt.Assign (targets:=[(Expr.Name "_law_ins" ⟨364,4,364,12⟩)]) (value:=(Expr.Subscript (value:=(Expr.List (elts:=[x1,x2,x3,x4,x5,x6,x7,x8]) (pos:=⟨364,15,364,39⟩))) (slice:=(Expr.Call (func:=(Expr.Name "_law_take" ⟨364,40,364,49⟩)) (args:=[ (Expr.Name "_law_bag_here" ⟨364,50,364,63⟩),(Expr.Constant (Const.int 8) 0 ⟨364,65,364,66⟩)]) (keywords:=[]) (pos:=⟨364,40,364,67⟩))) (pos:=⟨364,15,364,68⟩))) (pos:=⟨364,4,364,68⟩)),(Stmt.Assign (targets:=[(Expr.Name "_law_outs" ⟨365,4,365,13⟩)]) (value:=(Expr.Subscript (value:=(Expr.List (elts:=[x9,x10,x11,x12,x13,x14,x15,x16]) (pos:=⟨365,16,365,40⟩))) (slice:=(Expr.Call (func:=(Expr.Name "_law_take" ⟨365,41,365,50⟩)) (args:=[ (Expr.Name "_law_bag_here" ⟨365,51,365,64⟩),(Expr.Constant (Const.int 8) 0 ⟨365,66,365,67⟩)]) (keywords:=[]) (pos:=⟨365,41,365,68⟩))) (pos:=⟨365,16,365,69⟩))) (pos:=⟨365,4,365,69⟩)),(Stmt.If (test:=(Expr.Compare (left:=(Expr.Name "_law_n" ⟨366,7,366,13⟩)) (ops:=[PySem.CmpOp.Eq]) (comparators:=[(Expr.Constant (Const.int 5) 0 ⟨366,17,366,18⟩)]) (pos:=⟨366,7,366,18⟩))) (body:=[ (Stmt.Assign (targets:=[ (Expr.Tuple (elts:=[(Expr.Name "_law_ins" ⟨367,8,367,16⟩),(Expr.Name "_law_outs" ⟨367,18,367,27⟩)]) (k:=0) (pos:=⟨367,8,367,27⟩))]) (value:=(Expr.Tuple (elts:=[ (Expr.Call (func:=(Expr.Name "min" ⟨367,31,367,34⟩)) (args:=[ (Expr.Name "_law_ins" ⟨367,35,367,43⟩),(Expr.Constant (Const.int 2) 0 ⟨367,45,367,46⟩)]) (keywords:=[]) (pos:=⟨367,31,367,47⟩)),(Expr.Call (func:=(Expr.Name "min" ⟨367,49,367,52⟩)) (args:=[ (Expr.Name "_law_outs" ⟨367,53,367,62⟩),(Expr.Constant (Const.int 2) 0 ⟨367,64,367,65⟩)]) (keywords:=[]) (pos:=⟨367,49,367,66⟩))]) (k:=0) (pos:=⟨367,30,367,67⟩))) (pos:=⟨367,8,367,67⟩))]) (orelse:=[]) (pos:=⟨366,4,367,67⟩)),(Stmt.Assign (targets:=[(Expr.Name "_law_wide" ⟨368,4,368,13⟩)]) (value:=(Expr.Subscript (value:=(Expr.List (elts:=[ (Expr.Constant (Const.int 4) 0 ⟨368,17,368,18⟩),(Expr.Constant (Const.int 4) 0 ⟨368,20,368,21⟩),(Expr.Constant (Const.int 9) 0 ⟨368,23,368,24⟩),(Expr.Constant (Const.int 1000000) 0 ⟨368,26,368,33⟩)]) (pos:=⟨368,16,368,34⟩))) (slice:=(Expr.Call (func:=(Expr.Name "_law_take" ⟨368,35,368,44⟩)) (args:=[ (Expr.Name "_law_bag_here" ⟨368,45,368,58⟩),(Expr.Constant (Const.int 4) 0 ⟨368,60,368,61⟩)]) (keywords:=[]) (pos:=⟨368,35,368,62⟩))) (pos:=⟨368,16,368,63⟩))) (pos:=⟨368,4,368,63⟩)),(Stmt.If (test:=(Expr.Compare (left:=(Expr.Name "_law_wide" ⟨369,7,369,16⟩)) (ops:=[PySem.CmpOp.Gt]) (comparators:=[(Expr.Constant (Const.int 9) 0 ⟨369,19,369,20⟩)]) (pos:=⟨369,7,369,20⟩))) (body:=[ (Stmt.Assign (targets:=[(Expr.Name "_law_n" ⟨370,8,370,14⟩)]) (value:=(Expr.Call (func:=(Expr.Name "min" ⟨370,17,370,20⟩)) (args:=[ (Expr.Name "_law_n" ⟨370,21,370,27⟩),(Expr.Constant (Const.int 2) 0 ⟨370,29,370,30⟩)]) (keywords:=[]) (pos:=⟨370,17,370,31⟩))) (pos:=⟨370,8,370,31⟩))]) (orelse:=[]) (pos:=⟨369,4,370,31⟩)),(Stmt.Return (value:=(some (Expr.Tuple (elts:=[ (Expr.Name "_law_n" ⟨371,12,371,18⟩),(Expr.Name "_law_ins" ⟨371,20,371,28⟩),(Expr.Name "_law_outs" ⟨371,30,371,39⟩),(Expr.Name "_law_wide" ⟨371,41,371,50⟩)]) (k:=0) (pos:=⟨371,11,371,51⟩)))) (pos:=⟨371,4,371,51⟩))]:=⟨_,_,_,_,_,_,_,_,_,_,_,_,_,_,_,_,rfl,rfl,rfl,rfl,rfl,rfl,rfl,rfl,rfl,rfl,rfl,rfl,rfl,rfl,rfl,rfl,by with_unfolding_all rfl⟩
theorem ft:aU ["_law_bag_here","_law_n","_law_ins","_law_outs","_law_wide"] ["_law_bag_here"] (aN lJ):=by walk_at "d"
theorem CH (T:Txt K mg Z) (ptree:P.given.tree=none):cK P w K mg base fK 2 Z.xm Z.wO ["_law_bag_here"] LL:=by
 have aP:=dS (P:=P) (w:=w) (base:=base) T ptree;refine T.ow.F.ok ft (λvs H Q E h=>?_) (λcdv A outer s H vs Q E hr h=>?_)
 ·obtain ⟨b,rfl,_⟩:=h;rfl
 ·obtain ⟨b,rfl,hB,k⟩:=h;obtain ⟨x1,x2,x3,x4,x5,x6,x7,x8,x9,x10,x11,x12,x13,x14,x15,x16,hx1,hx2,hx3,hx4,hx5,hx6,hx7,hx8,hx9,hx10,hx11,hx12,hx13,hx14,hx15,hx16,hbd⟩:=CM;rw[hbd]
  refine ⟨_,(ar (aS (i:=1) ft.nd rfl (Or.inl rfl) (cH aP hr T.aR (ae (pv 0) (ae ak ai))))
   (gN (dh (bw fH (cH aP hr T.aR (ae (pv 0) (ae ak ai))) ak (bM _)) (aA (aS (i:=1) ft.nd rfl (Or.inl rfl) ak)) b8)
   (ar (aS (i:=2) ft.nd rfl (Or.inl rfl) (aW bA (dc (eX hx1 ak (eX hx2 ak (eX hx3 ak (eX hx4 ak (eX hx5 ak (eX hx6 ak (eX hx7 ak (eX hx8 ak ai))))))))) (cH aP hr T.aR (ae (pv 0) (ae ak ai)))))
   (ar (aS (i:=3) ft.nd rfl (Or.inl rfl) (aW bA (dc (eX hx9 ak (eX hx10 ak (eX hx11 ak (eX hx12 ak (eX hx13 ak (eX hx14 ak (eX hx15 ak (eX hx16 ak ai))))))))) (cH aP hr T.aR (ae (pv 0) (ae ak ai)))))
   (gN (dh (bw fH (pv 1) ak (bM _)) (aA (NL (i:=2) (j:=3) rfl ft.nd rfl rfl (by decide) rfl rfl (ae (bL (tS rfl) (by rfl) T.min PyProof.Rows.boot_min (ae (pv 2) (ae ak ai))) (ae (bL (tS rfl) (by rfl) T.min PyProof.Rows.boot_min (ae (pv 3) (ae ak ai))) ai)) rfl)) b8)
   (ar (aS (i:=4) ft.nd rfl (Or.inl rfl) (aW bA (dc (ae ak (ae ak (ae ak (ae ak ai))))) (cH aP hr T.aR (ae (pv 0) (ae ak ai)))))
   (gN (dh (bw vW (pv 4) ak (bM _)) (aA (aS (i:=1) ft.nd rfl (Or.inl rfl) (bL (tS rfl) (by rfl) T.min PyProof.Rows.boot_min (ae (pv 1) (ae ak ai))))) b8)
   (aA (aV (cW (ae (pv 1) (ae (pv 2) (ae (pv 3) (ae (pv 4) ai)))))))))))))),?_⟩
  refine aQ (σ:=[some (.ref b),none,none,none,none]) rfl ?_;exists ⟨b,5,rfl,hB,by decide,by decide,λn H1 n0 n1 B1 u1=>?_⟩;obtain ⟨n,rfl⟩:=bS n0;exists ⟨λσ' H'=>(∃n:Nat,σ'=[some (.ref b),some (.int n),none,none,none]/\n<=5)/\gh H' b/\cI b H H',?_,?_⟩
  ·exists ⟨b,8,rfl,B1,by decide,by decide,λv H2 v0 v1 B2 u2=>?_⟩;exists iK (λ_=>?_) (λ_=>?_)
   ·exists ⟨⟨5,rfl,by decide⟩,B2,u1.trans u2⟩
   ·exists ⟨⟨n,rfl,by lia⟩,B2,u1.trans u2⟩
  clear n0 n1 u1 B1;rintro σ' H1 ⟨⟨n,rfl,n5⟩,B1,u1⟩;exists cS λl0 H2 s2 n2 g2=>?_
  exists ⟨b,8,rfl,B1.same s2,by decide,by decide,λv H3 v0 v1 B3 u3=>?_⟩;have g3:=u3.other (λz=>B1.at (by rw[<- z];exact n2)) g2;obtain ⟨x,ex,mx,_⟩:=j4 (xs:=[V.int 0,V.int 1,V.int 1,V.int 1,V.int 2,V.int 2,V.int 3,V.int 4]) v0 (by simpa using v1)
  obtain ⟨i,rfl,hi⟩:∃z:Nat,x=.int z/\z<=4:=by
   simp only[aL,a9,or_false] at mx;rcases mx with rfl | rfl | rfl | rfl | rfl | rfl | rfl | rfl
   ·exact ⟨0,rfl,by decide⟩
   ·exact ⟨1,rfl,by decide⟩
   ·exact ⟨1,rfl,by decide⟩
   ·exact ⟨1,rfl,by decide⟩
   ·exact ⟨2,rfl,by decide⟩
   ·exact ⟨2,rfl,by decide⟩
   ·exact ⟨3,rfl,by decide⟩
   ·exact ⟨4,rfl,by decide⟩
  exists cn (bF.of g3) ex ?_;clear ex mx g3 g2;exists cS λl1 H4 s4 n4 g4=>?_
  exists ⟨b,8,rfl,B3.same s4,by decide,by decide,λt H5 t0 t1 B5 u5=>?_⟩;have g5:=u5.other (λz=>B3.at (by rw[<- z];exact n4)) g4;obtain ⟨x,ex,mx,_⟩:=j4 (xs:=[V.int 0,V.int 1,V.int 1,V.int 1,V.int 2,V.int 2,V.int 3,V.int 4]) t0 (by simpa using t1)
  obtain ⟨o,rfl,ho⟩:∃z:Nat,x=.int z/\z<=4:=by
   simp only[aL,a9,or_false] at mx;rcases mx with rfl | rfl | rfl | rfl | rfl | rfl | rfl | rfl
   ·exact ⟨0,rfl,by decide⟩
   ·exact ⟨1,rfl,by decide⟩
   ·exact ⟨1,rfl,by decide⟩
   ·exact ⟨1,rfl,by decide⟩
   ·exact ⟨2,rfl,by decide⟩
   ·exact ⟨2,rfl,by decide⟩
   ·exact ⟨3,rfl,by decide⟩
   ·exact ⟨4,rfl,by decide⟩
  exists cn (bF.of g5) ex ?_;clear ex mx g5 g4;have u15:=(((u1.same s2).trans u3).same s4).trans u5;exists ⟨λσ' H'=>(∃i o:Nat,σ'=[some (.ref b),some (.int n),some (.int i),some (.int o),none]/\i<=4/\o<=4/\(n=5->i<=2/\o<=2))/\gh H' b/\cI b H H',?_,?_⟩
  ·exists iK (λh0=>?_) (λh0=>?_)
   ·exists ⟨⟨min i 2,min o 2,?_,by lia,by lia,λ_=>⟨by lia,by lia⟩⟩,B5,u15⟩;have e1:(if (2:Int) < (i:Int) then (2:Int) else (i:Int))=((min i 2:Nat):Int):=by split <;> lia
    have e2:(if (2:Int) < (o:Int) then (2:Int) else (o:Int))=((min o 2:Nat):Int):=by split <;> lia
    rw[<- e1,<- e2];rfl
   ·exists ⟨⟨i,o,rfl,hi,ho,λz=>absurd (decide_eq_true (show (n:Int)=5 by lia)) h0⟩,B5,u15⟩
  clear hi ho u15 B5 u5 u3 u1;rintro σ' H5 ⟨⟨i,o,rfl,hi,ho,h5⟩,B5,u5⟩;exists cS λl2 H6 s6 n6 g6=>?_
  exists ⟨b,4,rfl,B5.same s6,by decide,by decide,λv H7 v0 v1 B7 u7=>?_⟩;have g7:=u7.other (λz=>B5.at (by rw[<- z];exact n6)) g6;obtain ⟨x,ex,mx,_⟩:=j4 (xs:=[V.int 4,V.int 4,V.int 9,V.int 1000000]) v0 (by simpa using v1)
  obtain ⟨w,rfl,hw⟩:∃w:Nat,x=.int w/\(w=4\/w=9\/w=1000000):=by
   simp only[aL,a9,or_false] at mx;rcases mx with rfl | rfl | rfl | rfl
   ·exact ⟨4,rfl,.inl rfl⟩
   ·exact ⟨4,rfl,.inl rfl⟩
   ·exact ⟨9,rfl,.inr (.inl rfl)⟩
   ·exact ⟨1000000,rfl,.inr (.inr rfl)⟩
  exists cn (bF.of g7) ex ?_;have u07:=(u5.same s6).trans u7;exists ⟨λσ' H'=>(∃n:Nat,σ'=[some (.ref b),some (.int n),some (.int i),some (.int o),some (.int w)]/\n<=5/\(w=4\/w=9\/(w=1000000/\n<=2))/\(n=5->i<=2/\o<=2))/\gh H' b/\cI b H H',?_,?_⟩
  ·exists iK (λh0=>?_) (λh0=>?_)
   ·exists ⟨⟨min n 2,?_,by lia,by lia,λz=>by lia⟩,B7,u07⟩;have e1:(if (2:Int) < (n:Int) then (2:Int) else (n:Int))=((min n 2:Nat):Int):=by split <;> lia
    rw[<- e1];rfl
   ·exists ⟨⟨n,rfl,n5,?_,h5⟩,B7,u07⟩;rcases hw with z | z | z
    ·exact .inl z
    ·exact .inr (.inl z)
    ·exact absurd (decide_eq_true (show (9:Int) < (w:Int) by lia)) h0
  ·clear h5 n5;rintro σ' H8 ⟨⟨n',rfl,n5,hwn,h5⟩,B8,u8⟩;exists cu λr H9 s9 g9=>?_
   exact k r n' i o w H9 g9 n5 hi ho hwn h5 (B8.same s9) (u8.same s9)
theorem i8:aU ["_law_bag_here","_law_n","_law_move_here","_law_at","_law_put","_law_first","_law_look"] ["_law_bag_here","_law_n"] (aN rS):=by walk_at "d"
theorem wa (T:Txt K mg Z) (ptree:P.given.tree=none):cK P w K mg base fK 2 Z.zB Z.yX ["_law_bag_here","_law_n"] (F6 K):=by
 have aP:=dS (P:=P) (w:=w) (base:=base) T ptree;refine T.jW.F.ok i8 (λvs H Q E h=>?_) (λcdv A outer s H vs Q E hr h=>?_)
 ·obtain ⟨b,n,rfl,_⟩:=h;rfl
 ·obtain ⟨b,n,rfl,hB,n1,n8,k⟩:=h
  refine ⟨_,(ar (mQ 2 ["_law_i"] ["_law_n"] [1] i8.nd rfl rfl (cE rfl T.range (ae (pv 1) ai)) (λ_=>(aO (i:=0) (show ND9 ["_law_i","_law_n"] by decide +kernel) rfl (Or.inr rfl) (Or.inl rfl))) (λ_=>cw) (λ_=>(bX ["_law_j"] ["_law_i"] [0] (cE rfl T.range (ae (pv 1) ai)) (λ_=>(aO (i:=0) (show ND9 ["_law_j","_law_i"] by decide +kernel))) (λ_=>cw) (λ_=>(cW (ae (du oQ (by rfl) T.int PyProof.Rows.boot_int (ae (mR fH (pv 0) (bI eQ (pv 1) ak) (bM _)) ai)) (ae ak ai)))))))
   (ar (fB (bX ["_law_j"] ["_law_bag_here"] [0] (cE rfl T.range (ae (pv 1) ai)) (λ_=>(aO (i:=0) (show ND9 ["_law_j","_law_bag_here"] by decide +kernel))) (λ_=>cw) (λ_=>(cW (ae (bI kX (cH aP hr T.aR (ae (pv 1) (ae ak ai))) ak) (ae ak ai))))) (gP (pv 2) (bI kX (pv 1) ak) set_list))
   (ar (aS (i:=3) i8.nd rfl (Or.inr rfl) (aW bA (dc (ae (bI kX (pv 1) ak) (ae (cH aP hr T.aR (ae (pv 0) (ae (pv 1) ai))) ai))) (cH aP hr T.aR (ae (pv 0) (ae ak ai)))))
   (ar (aS (i:=4) i8.nd rfl (Or.inl rfl) (dc (ae (bX ["_law_j"] ["_law_at"] [3] (cE rfl T.range (ae (pv 1) ai)) (λ_=>(aO (i:=0) (show ND9 ["_law_j","_law_at"] by decide +kernel))) (λ_=>cw) (λ_=>(cW (ae (du oQ (by rfl) T.int PyProof.Rows.boot_int (ae (mR fH (pv 0) (pv 1) (bM _)) ai)) (ae ak ai))))) ai)))
   (ar (aS (i:=5) i8.nd rfl (Or.inr rfl) (aW bA (dc (ae ak (ae ak (ae (cH aP hr T.aR (ae (pv 0) (ae (pv 1) ai))) ai)))) (cH aP hr T.aR (ae (pv 0) (ae ak ai)))))
   (ar (aS (i:=6) i8.nd rfl (Or.inl rfl) (dc (ae (bX ["_law_j"] ["_law_first"] [5] (cE rfl T.range (ae (pv 1) ai)) (λ_=>(aO (i:=0) (show ND9 ["_law_j","_law_first"] by decide +kernel))) (λ_=>cw) (λ_=>(cW (ae (du oQ (by rfl) T.int PyProof.Rows.boot_int (ae (mR fH (pv 0) (pv 1) (bM _)) ai)) (ae ak ai))))) ai)))
   (aA (aV (cW (ae (pv 2) (ae (pv 4) (ae (pv 6) ai)))))))))))),?_⟩
  refine aQ (σ:=[some (.ref b),some (.int n),none,none,none,none,none]) rfl ?_
  have bit:∀{z:Int},∀y∈(List.range n).map (λ(j:Nat)=>(((if decide ((j:Int)=z)=true then 1 else 0:Int)):Rat)),Fr 1 1 y:=λy hy=>by
   obtain ⟨j,_,rfl⟩:=az.mp hy;exact Uu (by split <;> simp)
  exists ⟨by lia,by lia,?_⟩;refine jc (n:=n) (cY K H) (λ(i:Nat)=>(List.range n).map λ(j:Nat)=>(((if decide ((j:Int)=(i:Int)+1)=true then 1 else 0:Int)):Rat)) (by lia) (λa b=>a.same b) ?_ ?_
  ·rintro i Hb NY NN hi sa k1;exists ⟨by lia,by lia,?_⟩;refine jc (n:=n) (b6 K) (λ(j:Nat)=>(((if decide ((j:Int)=(i:Int)+1)=true then 1 else 0:Int)):Rat)) (by lia) (λa b=>a.same b) ?_ ?_
   ·rintro j Hz NY2 NN2 hj sz k2;exists cu λt Hy sy gy=>?_
    exact k2 _ _ sy (b6.mk gy rfl)
   ·rintro ys Hz t ht sz g pr nx;exact k1 _ _ sz ⟨t,rfl,sa.none ht,ys,g,pr⟩
  rintro ys H1 mm hm s1 g1 pr1 nx1;have G1:bB K H H1 mm ((List.range n).map λ(i:Nat)=>(List.range n).map λ(j:Nat)=>(((if decide ((j:Int)=(i:Int)+1)=true then 1 else 0:Int)):Rat)):=⟨ys,g1,pr1,jD nx1⟩;clear g1 pr1 nx1;have B1:=hB.same s1;have mb:mm≠b:=λz=>hB.at (by rw[<- z];exact hm)
  obtain ⟨q0,I0,xq,gq0⟩:=hB.inner;have mq:mm≠q0:=λz=>by rw[<- z,hm] at gq0;cases gq0
  exists ⟨by lia,by lia,?_⟩;refine yi (n:=n) (b:=b) (b6 K) (Fr 1 1) B1 (by lia) (λa u B=>a.upto u B) ?_ ?_
  ·rintro j Ha NY NN hj ua Ba k1;exists ⟨b,3,rfl,Ba,by decide,by decide,λv Hb v0 v1 Bb ub=>?_⟩;exists cu λt Hc sc gc=>?_
   exact k1 _ ((v - 1:Int):Rat) _ (ub.same sc) (Bb.same sc) (Fr.int (by lia)) (b6.mk gc rfl)
  rintro ys2 cs H2 q2 hq2 u2 B2 g2 lc hc pr2 _;have u02:=(s1.upto (p:=b)).trans u2;have nq2:H q2=none:=s1.none hq2;obtain ⟨us,gu,pu⟩:=(G1.upto u2 B1 mb hB.at).toE;have lu:=pu.length;rw[aj,bR] at lu
  have q2m:q2≠mm:=λz=>by
   obtain ⟨_,gg,_⟩:=id G1;rw[z,gg] at hq2;cases hq2
  walk_at "w";rw[show ((n:Int) - 1)=((n - 1:Nat):Int) by lia];refine eN gu (fh (by lia)) rfl ?_;have G3:bB K H (upd H2 mm (.lst (us.set (n - 1) (.ref q2)))) mm (((List.range n).map λ(i:Nat)=>(List.range n).map λ(j:Nat)=>(((if decide ((j:Int)=(i:Int)+1)=true then 1 else 0:Int)):Rat)).set (n - 1) cs):=bB.ofE aJ (jx (Paired.imp' (λ_ _ z=>Fo.updL z gu (λq h=>h.2)) pu) (n - 1) ⟨q2,rfl,⟨nq2,q2m⟩,cz.updL ⟨ys2,g2,pr2⟩ gu q2m⟩) (λq h=>h.1) (λq h=>h.2);have B3:gh (upd H2 mm (.lst (us.set (n - 1) (.ref q2)))) b:=B2.upd (u02.2 _ I0) mb mq;have u03:cI b H (upd H2 mm (.lst (us.set (n - 1) (.ref q2)))):=u02.after hm;obtain ⟨mv,emv⟩:∃mv,mv=((List.range n).map λ(i:Nat)=>(List.range n).map λ(j:Nat)=>(((if decide ((j:Int)=(i:Int)+1)=true then 1 else 0:Int)):Rat)).set (n - 1) cs:=⟨_,rfl⟩;have lmv:mv.length=n:=by rw[emv,dM,aj,bR]
  have hmv:∀xs∈mv,xs.length=n/\∀y∈xs,Fr 1 1 y:=λxs hx=>by
   rw[emv] at hx;rcases cy hx with hx | rfl
   ·obtain ⟨i,_,rfl⟩:=az.mp hx;exact ⟨by rw[aj,bR],bit⟩
   ·exact ⟨lc,hc⟩
  rw[<- emv] at G3;generalize upd H2 mm (.lst (us.set (n - 1) (.ref q2)))=H3 at G3 B3 u03 ⊢;clear emv pu gu G1 u2 pr2 g2 B2;exists ⟨b,n,rfl,B3,by lia,by lia,λa1 H4 a10 a11 B4 u4=>?_⟩;exists cS λl1 H5 s5 nl1 g5=>?_
  exists ⟨b,2,rfl,B4.same s5,by decide,by decide,λv H6 v0 v1 B6 u6=>?_⟩;have g6:=u6.other (λz=>B4.at (by rw[<- z];exact nl1)) g5;obtain ⟨x,ex,mx,_⟩:=j4 (xs:=[V.int ((n:Int) - 1),V.int a1]) v0 (by simpa using v1)
  obtain ⟨at',rfl⟩:∃a:Int,x=.int a:=by
   simp only[aL,a9,or_false] at mx;rcases mx with rfl | rfl
   ·exact ⟨_,rfl⟩
   ·exact ⟨_,rfl⟩
  exists cn (bF.of g6) ex ?_;have u36:=(u4.same s5).trans u6;have G6:=G3.upto u36 B3 mb hB.at;have u06:=u03.trans u36;clear ex mx g6 g5 G3 u4 u6;exists ⟨by lia,by lia,?_⟩;refine jc (n:=n) (b6 K) (λ(j:Nat)=>(((if decide ((j:Int)=at')=true then 1 else 0:Int)):Rat)) (by lia) (λa b=>a.same b) ?_ ?_
  ·rintro j Hz NY2 NN2 hj sz k2;exists cu λt Hy sy gy=>?_
   exact k2 _ _ sy (b6.mk gy rfl)
  rintro ys7 H7 q7 hq7 s7 g7 pr7 _;have R7:cz K H7 q7 _:=⟨ys7,g7,pr7⟩;exists cS λp8 H8 s8 n8' g8=>?_
  have s68:=s7.trans s8;have q78:q7≠p8:=λz=>by rw[z,n8'] at g7;cases g7
  have np8:H p8=none:=u06.none B6 (s7.none n8');have nq7:H q7=none:=u06.none B6 hq7
  have GP:bB K H H8 p8 [(List.range n).map λ(j:Nat)=>(((if decide ((j:Int)=at')=true then 1 else 0:Int)):Rat)]:=⟨_,g8,.cons ⟨q7,rfl,nq7,R7.same s8⟩ .nil,λz=>by
   rw[bW] at z;cases z;exact q78 rfl⟩
  have B8:=B6.same s68;have u08:=u06.same s68;have G8:=G6.same s68;have pb:p8≠b:=λz=>hB.at (by rw[<- z];exact np8)
  exists ⟨b,n,rfl,B8,by lia,by lia,λa2 H9 a20 a21 B9 u9=>?_⟩;exists cS λl2 Ha sa nl2 ga=>?_
  exists ⟨b,3,rfl,B9.same sa,by decide,by decide,λv' Hb v0' v1' Bb ub=>?_⟩;have gb:=ub.other (λz=>B9.at (by rw[<- z];exact nl2)) ga;obtain ⟨x,ex,mx,_⟩:=j4 (xs:=[V.int 0,V.int 0,V.int a2]) v0' (by simpa using v1')
  obtain ⟨fi,rfl⟩:∃a:Int,x=.int a:=by
   simp only[aL,a9,or_false] at mx;rcases mx with rfl | rfl | rfl
   ·exact ⟨_,rfl⟩
   ·exact ⟨_,rfl⟩
   ·exact ⟨_,rfl⟩
  exists cn (bF.of gb) ex ?_;have u8b:=(u9.same sa).trans ub;have Gb:=G8.upto u8b B8 mb hB.at;have GPb:=GP.upto u8b B8 pb hB.at;have u0b:=u08.trans u8b;clear ex mx gb ga G8 GP u9 ub;exists ⟨by lia,by lia,?_⟩;refine jc (n:=n) (b6 K) (λ(j:Nat)=>(((if decide ((j:Int)=fi)=true then 1 else 0:Int)):Rat)) (by lia) (λa b=>a.same b) ?_ ?_
  ·rintro j Hz NY2 NN2 hj sz k2;exists cu λt Hy sy gy=>?_
   exact k2 _ _ sy (b6.mk gy rfl)
  rintro ysc Hc qc hqc sc gc prc _;have Rc:cz K Hc qc _:=⟨ysc,gc,prc⟩;exists cS λpd Hd sd nd gd=>?_
  have sbd:=sc.trans sd;have qcd:qc≠pd:=λz=>by rw[z,nd] at gc;cases gc
  have npd:H pd=none:=u0b.none Bb (sc.none nd);have nqc:H qc=none:=u0b.none Bb hqc
  have GL:bB K H Hd pd [(List.range n).map λ(j:Nat)=>(((if decide ((j:Int)=fi)=true then 1 else 0:Int)):Rat)]:=⟨_,gd,.cons ⟨qc,rfl,nqc,Rc.same sd⟩ .nil,λz=>by
   rw[bW] at z;cases z;exact qcd rfl⟩
  exists cu λr He se ge=>?_
  have sbe:=sbd.trans se;refine k r mv _ _ He ⟨mm,p8,pd,ge,hm,np8,npd,Gb.same sbe,GPb.same sbe,GL.same se⟩ lmv rfl rfl ⟨by lia,by simp,by simp,λxs hx=>by rw[(hmv xs hx).1,lmv],λxs hx=>?_,λxs hx=>?_⟩ (λxs hx=>(hmv xs hx).2) (λxs hx=>?_) (λxs hx=>?_) (Bb.same sbe) (u0b.same sbe)
  ·rw[bW.mp hx,aj,bR,lmv]
  ·rw[bW.mp hx,aj,bR,lmv]
  ·rw[bW.mp hx];exact bit
  ·rw[bW.mp hx];exact bit
theorem jC:aU ["_law_top","_law_bottom","_law_one","_law_other"] ["_law_top","_law_bottom"] (aN ve):=by walk_at "d"
theorem mT (T:Txt K mg Z) (ptree:P.given.tree=none):cK P w K mg base fK 1 Z.Cc Z.BO ["_law_top","_law_bottom"] Sl:=by
 refine T.iV.F.ok jC (λvs H Q E h=>?_) (λcdv A outer s H vs Q E hr h=>?_)
 ·obtain ⟨t,b,rfl,_⟩:=h;rfl
 ·obtain ⟨t,b,rfl,hb,hs,k⟩:=h
  refine ⟨_,(ar (aS (i:=2) jC.nd rfl (Or.inl rfl) (bL wX (by rfl) T.abs PyProof.Rows.boot_abs (ae (pv 0) ai)))
   (ar (aS (i:=3) jC.nd rfl (Or.inl rfl) (pv 1))
   (ar (AM PassesOwn.never (bw Dx (pv 2) ak (bM _))
    (aA (NL (i:=2) (j:=3) rfl jC.nd rfl rfl (by decide) rfl rfl (ae (bI oa (pv 3) (pv 2)) (ae (pv 2) ai)) rfl)))
   (aA (aV (cW (ae (bI (iQ rfl jC rfl rfl rfl ptree (sY hr)) (pv 0) (pv 3)) (ae (bI (iQ rfl jC rfl rfl rfl ptree (sY hr)) (pv 1) (pv 3)) ai)))))))),?_⟩
  refine aQ (σ:=[some (.int t),some (.int b),none,none]) rfl ?_;walk_at "w"
  refine Ei (λσ' H'=>∃(u v:Int),σ'=[some (.int t),some (.int b),some (.int u),some (.int v)]/\H'=H/\0<=u/\0 < v/\Int.gcd u v=Int.gcd t b) (λσ' _=>match σ' with | [_,_,some (.int u),_]=>u.natAbs | _=>0) ⟨_,b,rfl,rfl,by split <;> lia,hb,by
   split
   ·rw[Int.neg_gcd]
   ·rfl⟩ ?_
  rintro σ' H' ⟨u,v,rfl,rfl,hu,hv,hg⟩;exists iK (λh=>?_) (λh=>?_)
  ·have hu0:u≠0:=λz=>by subst z;simp at h
   exists fY (show (0:Int) < u by lia) ?_;walk_at "w";have h1:=lV v hu0;have h2:=jv v (show 0 < u by lia);exact ⟨⟨v % u,u,rfl,rfl,h1,by lia,by rw[ju,Oz,ju];exact hg⟩,by show (v % u).natAbs < u.natAbs;lia⟩
  ·have hu0:u=0:=by
    by_cases z:u=0
    ·exact z
    ·exfalso;apply h;simp [z]
   subst hu0
   have e:v=g t b:=by
    unfold g;rw[<- hg,Int.gcd_zero_left]
    lia
   have hgs:Sz 449950 v:=hs.le (by
    rw[e];have h1:(g t b).natAbs=Int.gcd t b:=by unfold g;simp
    rw[h1];exact lD (by lia) (by have:=fQ (a:=t) (b:=b);exact ik.mpr this |> λz=>by simpa using z))
   exists fY (show nv _ _ from ⟨by lia,hgs⟩) ?_;exists fY (show nv _ _ from ⟨by lia,hgs⟩) ?_;exists cu λr H' s' h'=>?_
   rw[ck _ (by lia),ck _ (by lia),e] at h';exact k r H' s' h'
theorem Gn:aU ["_law_one","_law_other"] ["_law_one","_law_other"] (aN vb):=by walk_at "d"
theorem mS (T:Txt K mg Z) (ptree:P.given.tree=none):cK P w K mg base fK 2 Z.Ca Z.BM ["_law_one","_law_other"] (o3 K (λx y=>x+y)):=by
 have iZ:=mT (P:=P) (w:=w) (base:=base) T ptree;refine T.gZ.F.ok Gn (λvs H Q E h=>?_) (λcdv A outer s H vs Q E hr h=>?_)
 ·obtain ⟨p,q,a,b,c,d,rfl,hp,hq,hb,hd,sa,sb,sc,sd,k⟩:=Lp h;rfl
 ·obtain ⟨p,q,a,b,c,d,rfl,hp,hq,hb,hd,sa,sb,sc,sd,k⟩:=Lp h;refine ⟨_,(aA (aV (cH iZ hr T.iV (ae (bI eQ (bI dg (aW bU (pv 0) ak) (aW bU (pv 1) ak)) (bI dg (aW bU (pv 1) ak) (aW bU (pv 0) ak))) (ae (bI dg (aW bU (pv 0) ak) (aW bU (pv 1) ak)) ai))))),?_⟩;refine aQ (σ:=[some (.ref p),some (.ref q)]) rfl ?_;have hbd:0 < b*d:=jq hb hd;have sbd:Sz 449950 (b*d):=(sb.mul sd).mono (by decide);exists fY (show iw _ _ from .inr ⟨_,_,sa,sd,by decide⟩) ?_;exists fY (show iw _ _ from .inr ⟨_,_,sc,sb,by decide⟩) ?_;exists fY (show iw _ _ from .inr ⟨_,_,sb,sd,by decide⟩) ?_;walk_at "w";exists ⟨_,_,rfl,hbd,sbd,k⟩
theorem EB:aU ["_law_one","_law_other"] ["_law_one","_law_other"] (aN rN):=by walk_at "d"
theorem pM (T:Txt K mg Z) (ptree:P.given.tree=none):cK P w K mg base fK 3 Z.zo Z.yT ["_law_one","_law_other"] (F0 K):=by
 have ij:=mS (P:=P) (w:=w) (base:=base) T ptree;refine T.jV.F.ok EB (λvs H Q E h=>?_) (λcdv A outer s H vs Q E hr h=>?_)
 ·obtain ⟨p,q,xs,ys,rfl,_⟩:=h;rfl
 ·obtain ⟨p,q,xs,ys,rfl,hp,hq,hl,hz,h1,h2,kk⟩:=h;refine ⟨_,(aA (aV (bX ["_law_k"] ["_law_one","_law_other"] [0,1] (cE rfl T.range (ae (bL be (by rfl) T.len a7 (ae (pv 0) ai)) ai)) (λ_=>(aO (i:=0) (show ND9 ["_law_k","_law_one","_law_other"] by decide +kernel))) (λ_=>cw) (λ_=>(cH ij hr T.gZ (ae (aW (oM K (by rfl)) (pv 1) (pv 0)) (ae (aW (oM K (by rfl)) (pv 2) (pv 0)) ai))))))),?_⟩;refine aQ (σ:=[some (.ref p),some (.ref q)]) rfl ?_;obtain ⟨us,gu,qu⟩:=id hp;obtain ⟨ws,gw,qw⟩:=id hq;have lu:=qu.length;exists ⟨_,_,rfl,.inl (bF.of gu),?_⟩;exists ⟨by lia,by lia,?_⟩;refine jc (n:=us.length) (b6 K) (λi=>xs.getD i 0+ys.getD i 0) (by lia) (λa b=>a.same b) ?_ ?_
  ·rintro i H' NY NN hi s k1;have ix:i < xs.length:=by lia
   have iy:i < ys.length:=by lia
   obtain ⟨vx,ex,nx⟩:=ML (Paired.imp' (λ_ _ z=>z.same s) qu) ix;obtain ⟨vy,ey,ny⟩:=ML (Paired.imp' (λ_ _ z=>z.same s) qw) iy;exists cn (bF.of (s _ _ gu)) ex ?_;exists cn (bF.of (s _ _ gw)) ey ?_;exists ⟨_,_,_,_,rfl,nx,ny,h1 _ (getD_mem ix),h2 _ (getD_mem iy),λr3 H3 s3 n3=>k1 _ _ s3 n3⟩
  ·rintro ys' H' l hl' s g pr nx;exact kk l H' hl' s ⟨ys',g,by rw[CY (by lia)];rw[<- lu] at pr;exact pr⟩
theorem Ez:aU ["_law_one","_law_other"] ["_law_one","_law_other"] (aN rM):=by walk_at "d"
theorem lO (T:Txt K mg Z) (ptree:P.given.tree=none):cK P w K mg base fK 2 Z.zm Z.yS ["_law_one","_law_other"] (o3 K (λx y=>x*y)):=by
 have iZ:=mT (P:=P) (w:=w) (base:=base) T ptree;refine T.ig.F.ok Ez (λvs H Q E h=>?_) (λcdv A outer s H vs Q E hr h=>?_)
 ·obtain ⟨p,q,a,b,c,d,rfl,hp,hq,hb,hd,sa,sb,sc,sd,k⟩:=zS h;rfl
 ·obtain ⟨p,q,a,b,c,d,rfl,hp,hq,hb,hd,sa,sb,sc,sd,k⟩:=zS h;refine ⟨_,(aA (aV (cH iZ hr T.iV (ae (bI dg (aW bU (pv 0) ak) (aW bU (pv 1) ak)) (ae (bI dg (aW bU (pv 0) ak) (aW bU (pv 1) ak)) ai))))),?_⟩;refine aQ (σ:=[some (.ref p),some (.ref q)]) rfl ?_;have hbd:0 < b*d:=jq hb hd;have sbd:Sz 449950 (b*d):=(sb.mul sd).mono (by decide);exists fY (show iw _ _ from .inr ⟨_,_,sa,sc,by decide⟩) ?_;exists fY (show iw _ _ from .inr ⟨_,_,sb,sd,by decide⟩) ?_;walk_at "w";exists ⟨_,_,rfl,hbd,sbd,k⟩
theorem Ji:aU ["_law_by_here","_law_row_here"] ["_law_by_here","_law_row_here"] (aN xQ):=by walk_at "d"
theorem A7 (T:Txt K mg Z) (ptree:P.given.tree=none):cK P w K mg base fK 3 Z.D9 Z.DQ ["_law_by_here","_law_row_here"] (Nn K):=by
 have hX:=lO (P:=P) (w:=w) (base:=base) T ptree;refine T.p5.F.ok Ji (λvs H Q E h=>?_) (λcdv A outer s H vs Q E hr h=>?_)
 ·obtain ⟨u,q,c,ys,rfl,_⟩:=h;rfl
 ·obtain ⟨u,q,c,ys,rfl,hc,sc,hq,hz,h2,kk⟩:=h;refine ⟨_,(aA (aV (bX ["_law_one"] ["_law_by_here"] [0] (cB (pv 1)) (λ_=>(aO (i:=0) (show ND9 ["_law_one","_law_by_here"] by decide +kernel))) (λ_=>cw) (λ_=>(cH hX hr T.ig (ae (pv 1) (ae (pv 0) ai))))))),?_⟩;refine aQ (σ:=[some u,some (.ref q)]) rfl ?_;obtain ⟨us,gu,qu⟩:=id hq;exists ⟨⟨_,bF.of gu⟩,?_⟩;refine dm (K:=K) (F:=b6 K) (b6 K) (λy=>c*y) gu qu hz (λa b=>a.same b) (λa b=>a.same b) ?_ ?_
  ·rintro i y x H' NY NN en s hx k;exists ⟨_,_,_,_,rfl,hc.same s,hx,sc,h2 y (ao en),λr H2 s2 h2'=>k _ _ s2 h2'⟩
  ·rintro ys' H' r hr s g pr nx;exact kk r H' hr s ⟨ys',g,pr⟩
theorem eH:aU ["_law_bag_here","_law_move_here","_law_put","_law_look","_law_n","_law_turn","_law_i","_law_j","_law_by_here","_law_less","_law_row_here"] ["_law_bag_here","_law_move_here","_law_put","_law_look"] (aN pF):=by walk_at "d"
theorem uh (T:Txt K mg Z) (ptree:P.given.tree=none):cK P w K mg base fK 4 Z.xo Z.wU ["_law_bag_here","_law_move_here","_law_put","_law_look"] (Dj K):=by
 have aP:=dS (P:=P) (w:=w) (base:=base) T ptree;have kQ:=pM (P:=P) (w:=w) (base:=base) T ptree;have yy:=A7 (P:=P) (w:=w) (base:=base) T ptree;have ij:=mS (P:=P) (w:=w) (base:=base) T ptree;have hX:=lO (P:=P) (w:=w) (base:=base) T ptree;refine T.kD.F.ok eH (λvs H Q E h=>?_) (λcdv A outer s H vs Q E hr h=>?_)
 ·obtain ⟨b,m,p,l,q0,n,WV,μ,A,us,ws,vs,rfl,_⟩:=h;rfl
 ·obtain ⟨b,m,p,l,q0,n,WV,μ,A,us,ws,vs,rfl,MA,X,n8,i4,o4,M0,M1,⟨M,eM⟩,V1,hA,k⟩:=h
  refine ⟨_,(ar (aS (i:=4) eH.nd rfl (Or.inl rfl) (bL be (by rfl) T.len a7 (ae (pv 1) ai)))
   (ar (dh (PW.pt (tZ (bw ue (pv 4) ak (bM _)) (pH (bw fH (cH aP hr T.aR (ae (pv 0) (ae ak ai))) ak (bM _))))) (aA (aV (cW (ae (pv 1) (ae (pv 2) (ae (pv 3) ai)))))) b8)
   (ar (dR PassesOwn.never rfl (cE rfl T.range (ae (bI eQ ak (cH aP hr T.aR (ae (pv 0) (ae ak ai)))) ai)) (aO (i:=5) eH.nd)
    (ar (aS (i:=6) eH.nd rfl (Or.inl rfl) (cH aP hr T.aR (ae (pv 0) (ae (pv 4) ai))))
   (ar (aS (i:=7) eH.nd rfl (Or.inl rfl) (bI oa (bI eQ (bI eQ (pv 6) ak) (cH aP hr T.aR (ae (pv 0) (ae (bI kX (pv 4) ak) ai)))) (pv 4)))
   (ar (aS (i:=8) eH.nd rfl (Or.inl rfl) (cW (ae (aW bA (dc (ae ak (ae (t9 nK ak) (ae ak (ae (t9 nK ak) ai))))) (cH aP hr T.aR (ae (pv 0) (ae ak ai)))) (ae ak ai))))
   (ar (aS (i:=9) eH.nd rfl (Or.inl rfl) (cW (ae (bI kX ak (aW bU (pv 8) ak)) (ae ak ai))))
   (ar (fB (cH kQ hr T.jV (ae (aW bA (pv 1) (pv 6)) (ae (cH yy hr T.p5 (ae (pv 8) (ae (aW bA (pv 1) (pv 7)) ai))) ai))) (gP (pv 1) (pv 6) set_list))
   (ar (dR PassesOwn.never rfl (cB (bI jP (pv 1) (pv 3))) (aO (i:=10) eH.nd)
    (aA (fB (cH ij hr T.gZ (ae (aW bA (pv 10) (pv 7)) (ae (cH hX hr T.ig (ae (pv 9) (ae (aW bA (pv 10) (pv 6)) ai))) ai))) (gP (pv 10) (pv 7) set_list))))
   (aA (dR PassesOwn.never rfl (cB (pv 2)) (aO (i:=10) eH.nd)
    (aA (fB (cH ij hr T.gZ (ae (aW bA (pv 10) (pv 6)) (ae (cH hX hr T.ig (ae (pv 8) (ae (aW bA (pv 10) (pv 7)) ai))) ai))) (gP (pv 10) (pv 6) set_list))))))))))))
   (aA (aV (cW (ae (pv 1) (ae (pv 2) (ae (pv 3) ai))))))))),?_⟩
  refine aQ (σ:=[some (.ref b),some (.ref m),some (.ref p),some (.ref l),none,none,none,none,none,none,none]) rfl ?_;have done:∀r us' H' t,t<=3->H' r=some (.tup [.ref m,.ref p,.ref l])->j7 K A H' n (λx=>Fr (μ x) (9^t*WV)) m p l b q0 us' ws vs->jg A b m H H'->Q (.ref r) H':=λr us' H' t ht g x kp=>k r us' H' g (x.weak λ_ _ y h=>h.mono (aG _ (av (by decide) ht))) kp
  have X0:j7 K A H n (λx=>Fr (μ x) (9^0*WV)) m p l b q0 us ws vs:=X.weak λ_ _ y h=>h.mono (by simp)
  clear X k;have gu:=X0.gm;have lu:=X0.lm;exists ⟨_,_,rfl,.inl (bF.of gu),?_⟩;rw[lu];clear gu lu;have kp0:jg A b m H H:=λ_ _ h _ _ _=>h
  exists iK (λh0=>?_) (λh0=>?_)
  ·exists cu λr H' s' g'=>?_
   exact done r us H' 0 (by decide) g' (X0.same s') (kp0.same s')
  have n2:2<=n:=by
   rcases cN n 2 with z | z
   ·exact absurd (decide_eq_true (show (n:Int) < 2 by lia)) h0
   ·exact z
  exists ⟨b,2,rfl,X0.bag,by decide,by decide,λv H1 v0 v1 B1 u1=>?_⟩;have X1:=X0.upto MA u1 B1;have kp1:=kp0.upto u1;exists iK (λh1=>?_) (λh1=>?_)
  ·exists cu λr H' s' g'=>?_
   exact done r us H' 0 (by decide) g' (X1.same s') (kp1.same s')
  exists ⟨b,3,rfl,B1,by decide,by decide,λc H2 c0 c1 B2 u2=>?_⟩;have X2:=X1.upto MA u2 B2;have kp2:=kp1.upto u2;clear X0 X1 kp0 kp1 u1 u2 B1;exists ⟨by lia,by lia,?_⟩;refine d9 (n:=(1+c).toNat) (λt σ' H'=>∃(x1 x2 x3 x4 x5 x6:Option V) (us:List V),σ'=[some (.ref b),some (.ref m),some (.ref p),some (.ref l),some (.int n),x1,x2,x3,x4,x5,x6]/\j7 K A H' n (λx=>Fr (μ x) (9^t*WV)) m p l b q0 us ws vs/\jg A b m H H') ⟨none,none,none,none,none,none,us,rfl,X2,kp2⟩ ?_ ?_
  ·rintro t σ' H' ht ⟨x1,x2,x3,x4,x5,x6,us,rfl,X,kp⟩;have t3:t<=2:=by lia
   exists ⟨b,n,rfl,X.bag,by lia,by lia,λii Ha i0 i1 Ba ua=>?_⟩;obtain ⟨ii,rfl⟩:=bS i0;have Xa:=X.upto MA ua Ba;have kpa:=kp.upto ua;exists ⟨b,_,rfl,Ba,by lia,by lia,λd Hb d0 d1 Bb ub=>?_⟩;have Xb:=Xa.upto MA ub Bb;have kpb:=kpa.upto ub;exists fY (show (0:Int) < n by lia) ?_;have j0:=lV ((ii:Int)+1+d) (show (n:Int)≠0 by lia);have j1:=jv ((ii:Int)+1+d) (show (0:Int) < n by lia);generalize ((ii:Int)+1+d) % (n:Int)=jj at j0 j1 ⊢;obtain ⟨jj,rfl⟩:=bS j0;exists cS λl0 Hc sc nc gc=>?_
   exists ⟨b,4,rfl,Bb.same sc,by decide,by decide,λv' Hd v0' v1' Bd ud=>?_⟩;have gd:=ud.other (λz=>Bb.at (by rw[<- z];exact nc)) gc;obtain ⟨x,ex,mx,_⟩:=j4 (xs:=[V.int 1,V.int (-1),V.int 2,V.int (-2)]) v0' (by simpa using v1')
   obtain ⟨z,rfl,hz⟩:∃z:Int,x=.int z/\z.natAbs<=2:=by
    simp only[aL,a9,or_false] at mx;rcases mx with rfl | rfl | rfl | rfl
    ·exact ⟨1,rfl,by decide⟩
    ·exact ⟨-1,rfl,by decide⟩
    ·exact ⟨2,rfl,by decide⟩
    ·exact ⟨-2,rfl,by decide⟩
   have Xd:=(Xb.same sc).upto MA ud Bd;have kpd:=(kpb.same sc).upto ud;exists cn (bF.of gd) ex ?_;exists cu λbt He se ge=>?_
   exists cu λlt Hf sf gf=>?_
   have Xf:=(Xd.same se).same sf;have kpf:=(kpd.same se).same sf;have nb:b6 K Hf ((z:Int):Rat) (.ref bt):=b6.mk (sf _ _ ge) rfl;have nl:b6 K Hf ((0 - z:Int):Rat) (.ref lt):=b6.mk gf rfl;clear X Xa Xb Xd kp kpa kpb kpd ua ub ud sc gc gd ex mx ge gf se sf Ba Bb Bd nc;have gu:=Xf.gm;have lu:=Xf.lm
   have ru:∀x∈us,fZ K A Hf n (Fr M (9^t*WV)) x:=λx hx=>by
    have:=Xf.row x (by simp [hx]);rwa [eM x (Xf.apart.1 x hx).1 (Xf.apart.1 x hx).2] at this
   have hM:0 < M/\M<=2^800:=by
    have hx:us[ii]'(by lia)∈us:=aM _;have:=eM _ (Xf.apart.1 _ hx).1 (Xf.apart.1 _ hx).2;rw[<- this];exact ⟨M0 _,M1 _⟩
   have e1:us[ii]?=some (us[ii]'(by lia)):=by simp
   have e2:us[jj]?=some (us[jj]'(by lia)):=by simp
   obtain ⟨q1,z1,qs1,w1,a1,g1,k1,p1,l1,c1⟩:=(ru _ (ao e1)).at;obtain ⟨q2,z2,qs2,w2,a2,g2,k2,p2,l2,c2⟩:=(ru _ (ao e2)).at;rw[w1] at e1;rw[w2] at e2;generalize eW:9^t*WV=W at *
   have W9:9*W<=2^140:=by rw[<- eW];exact Qn (by lia) V1 (by decide)
   have sz9M:∀{x:Rat} {U:Nat},U<=9*W->Fr M U x->kN x:=λhU h=>K7 hM.1 hM.2 (ag hU W9) h
   have sz9:∀{x:Rat} {U:Nat} {v:V},U<=9*W->Fr (μ v) U x->kN x:=λhU h=>K7 (M0 _) (M1 _) (ag hU W9) h
   exists cn (bF.of gu) (dA e1) ?_;exists cn (bF.of gu) (dA e2) ?_;exists ⟨_,q2,_,qs2,rfl,nb,El (by lia),⟨z2,g2,p2⟩,by lia,λy hy=>sz9M (by lia) (c2 y hy),λr1 Hg n1 sg R1=>?_⟩;exists ⟨q1,r1,qs1,_,rfl,⟨z1,sg _ _ g1,Paired.imp' (λ_ _ y=>y.same sg) p1⟩,R1,by rw[aj,l1,l2],by lia,λy hy=>sz9M (by lia) (c1 y hy),λy hy=>?_,λr2 Hh n2' sh R2=>?_⟩
   ·obtain ⟨y',hy',rfl⟩:=az.mp hy;exact Ai hz (c2 y' hy') hM.1 hM.2 (by lia)
   have sfh:=sg.trans sh
   have new:V.ref r2∉us++vs++ws:=λz=>by
    obtain ⟨q',_,_,e',_,g',_⟩:=((Xf.same sg).row _ z).at;cases e';rw[n2'] at g';cases g'
   have Xh:=(Xf.same sfh).weak (C':=λx y=>(x∈ws->Fr (μ x) W y)/\Fr (μ x) (3*W) y) λx _ y h=>⟨λ_=>h,h.mono (by lia)⟩
   have kph:=kpf.same sfh;have guh:=sfh _ _ gu;have ar2:A r2:=(kpf.same sg).new hA (Xf.same sg).bag (by rw[sg _ _ gu];simp) n2'
   have rp2:fZ K A Hh n (λy=>(V.ref r2∈ws->Fr (μ (.ref r2)) W y)/\Fr (μ (.ref r2)) (3*W) y) (.ref r2):=by
    rw[eM (.ref r2) (λz=>new (aH.mpr (.inr z))) (λz=>new (aH.mpr (.inl (aH.mpr (.inr z)))))];refine ⟨r2,_,rfl,ar2,R2,by rw[bo,aj];lia,λy hy=>⟨λz=>absurd (aH.mpr (.inr z)) new,?_⟩⟩;obtain ⟨j',hj',e⟩:=bN hy;rw[dC,ji] at e;rw[<- e];exact Fc hz (c1 _ (aM _)) (c2 _ (aM _))
   exists eN guh (fh (by lia)) rfl ?_;have Xi:=Xh.set MA rp2 new ii;have kpi:=kph.upd (o:=.lst (us.set ii (.ref r2))) (q:=m) (.inr rfl);have nli:b6 K (upd Hh m (.lst (us.set ii (.ref r2)))) ((0 - z:Int):Rat) (.ref lt):=(nl.same sfh).updL guh;have nbi:b6 K (upd Hh m (.lst (us.set ii (.ref r2)))) ((z:Int):Rat) (.ref bt):=(nb.same sfh).updL guh;generalize upd Hh m (.lst (us.set ii (.ref r2)))=Hi at Xi kpi nli nbi ⊢;generalize us.set ii (.ref r2)=um at Xi;clear nb nl Xf kpf gu ru e1 e2 g1 p1 g2 p2 R1 R2 Xh kph guh rp2 sg sh sfh new;have gm:=Xi.gm;have lm:=Xi.lm;have gl:=Xi.gl;have nd:=Xi.nd;obtain ⟨nd1,nd2,nd3⟩:=dX.mp nd;exists kW gm gl (aT (br (by lia))) λcl Hj sj nj gj=>?_
   have kpj:=kpi.same sj
   have rows:∀x∈um++vs,∀q,x=V.ref q->q≠cl:=λx hx q e y=>by
    obtain ⟨q',zs,_,e',_,g',_⟩:=(Xi.row x (aH.mpr (.inl hx))).at;rw[e] at e';cases e';rw[y,nj] at g';cases g'
   have Xj:=(Xi.same sj).weak (C':=λx y=>(x∈ws->Fr (μ x) W y)/\(x∈(um++vs).drop 0->Fr (μ x) (3*W) y)/\Fr (μ x) (9*W) y) λx _ y h=>⟨h.1,λ_=>h.2,h.2.mono (by lia)⟩
   have lj:b6 K Hj ((0 - z:Int):Rat) (.ref lt):=nli.same sj;have bj:b6 K Hj ((z:Int):Rat) (.ref bt):=nbi.same sj;clear Xi kpi nli nbi;refine ⟨_,rfl,⟨_,bF.of gj⟩,?_⟩;refine iX (K:=K) (a:=cl) (xs:=um++vs) (λs σ' H'=>∃x6:Option V,σ'=[some (.ref b),some (.ref m),some (.ref p),some (.ref l),some (.int n),some (.int t),some (.int ii),some (.int jj),some (.ref bt),some (.ref lt),x6]/\j7 K A H' n (λx y=>(x∈ws->Fr (μ x) W y)/\(x∈(um++vs).drop s->Fr (μ x) (3*W) y)/\Fr (μ x) (9*W) y) m p l b q0 um ws vs/\jg A b m H H'/\H' cl=some (.lst (um++vs))/\b6 K H' ((0 - z:Int):Rat) (.ref lt)/\b6 K H' ((z:Int):Rat) (.ref bt)) ⟨_,rfl,Xj,kpj,gj,lj,bj⟩ (λs σ' H' _ ⟨_,_,_,_,e,_⟩=>bF.of e) ?_ ?_
   ·rintro s x σ' Hk hx ⟨y6,rfl,Xk,kpk,gk,lk,bk⟩;have hs:s < (um++vs).length:=(aK.mp hx).1;have mx:=ao hx
    have xd:x∈(um++vs).drop s:=by
     rw[fo hs,(aK.mp hx).2];exact .head _
    have xd2:x∉(um++vs).drop (s+1):=λz=>by
     have:=nd1.sublist (List.drop_sublist s _);rw[fo hs,ff,(aK.mp hx).2] at this;exact this.1 z
    have xw:x∉ws:=λz=>nd3 x mx x z rfl
    have rx:=Xk.row x (aH.mpr (.inl mx));obtain ⟨q,zs,qs,rfl,aq,gq,lq,pq,lq2,cq⟩:=rx.at;have qcl:=rows _ mx q rfl;obtain ⟨vj,ej,nj'⟩:=ML pq (j:=jj) (by lia);obtain ⟨vi,ei,ni'⟩:=ML pq (j:=ii) (by lia);have cj:=(cq _ (getD_mem (xs:=qs) (i:=jj) (by lia))).2.1 xd;have ci:=(cq _ (getD_mem (xs:=qs) (i:=ii) (by lia))).2.1 xd;exists cn (bF.of gq) ej ?_;exists cn (bF.of gq) ei ?_;exists ⟨_,_,_,_,rfl,lk,ni',El (by lia),sz9 (by lia) ci,λr3 Hl sl n3=>?_⟩;exists ⟨_,_,_,_,rfl,nj'.same sl,n3,sz9 (by lia) cj,Ai (by lia) ci (M0 _) (M1 _) (by lia),λr4 Hm sm n4=>?_⟩;have slm:=sl.trans sm;exists eN (slm _ _ gq) (fh (by lia)) rfl ?_;refine ⟨_,rfl,?_,(kpk.same slm).upd (.inl aq),by rw[bD qcl.symm];exact slm _ _ gk,(lk.same slm).updL (slm _ _ gq),(bk.same slm).updL (slm _ _ gq)⟩;refine ((Xk.same slm).weak λx' _ y h=>⟨h.1,λz=>h.2.1 ?_,h.2.2⟩).put MA aq (slm _ _ gq) n4 ⟨λz=>absurd z xw,λz=>absurd z xd2,?_⟩ jj
    ·rw[fo hs];exact .tail _ z
    ·exact (Fc (by lia) cj ci).mono (by lia)
   ·rintro σ' Hk ⟨y6,rfl,Xk,kpk,gk,lk,bk⟩;have gp:=Xk.gp;have Xk2:=Xk.weak (C':=λx y=>(x∈ws.drop 0->Fr (μ x) W y)/\Fr (μ x) (9*W) y) λx _ y h=>⟨λz=>h.1 (by simpa using z),h.2.2⟩
    clear Xk;exists ⟨⟨_,bF.of gp⟩,?_⟩;refine iX (K:=K) (a:=p) (xs:=ws) (λs σ' H'=>∃x6:Option V,σ'=[some (.ref b),some (.ref m),some (.ref p),some (.ref l),some (.int n),some (.int t),some (.int ii),some (.int jj),some (.ref bt),some (.ref lt),x6]/\j7 K A H' n (λx y=>(x∈ws.drop s->Fr (μ x) W y)/\Fr (μ x) (9*W) y) m p l b q0 um ws vs/\jg A b m H H'/\b6 K H' ((z:Int):Rat) (.ref bt)) ⟨_,rfl,Xk2,kpk,bk⟩ (λs σ' H' _ ⟨_,_,X,_⟩=>bF.of X.gp) ?_ ?_
    ·rintro s x σ' Hl hx ⟨w6,rfl,Xl,kpl,bl⟩;have hs:s < ws.length:=(aK.mp hx).1;have mx:=ao hx
     have xd:x∈ws.drop s:=by
      rw[fo hs,(aK.mp hx).2];exact .head _
     have xd2:x∉ws.drop (s+1):=λz=>by
      have:=nd2.sublist (List.drop_sublist s _);rw[fo hs,ff,(aK.mp hx).2] at this;exact this.1 z
     have rx:=Xl.row x (aH.mpr (.inr mx));obtain ⟨q,zs,qs,rfl,aq,gq,lq,pq,lq2,cq⟩:=rx.at;obtain ⟨vj,ej,nj'⟩:=ML pq (j:=jj) (by lia);obtain ⟨vi,ei,ni'⟩:=ML pq (j:=ii) (by lia);have cj:=(cq _ (getD_mem (xs:=qs) (i:=jj) (by lia))).1 xd;have ci:=(cq _ (getD_mem (xs:=qs) (i:=ii) (by lia))).1 xd;exists cn (bF.of gq) ei ?_;exists cn (bF.of gq) ej ?_;exists ⟨_,_,_,_,rfl,bl,nj',El (by lia),sz9 (by lia) cj,λr3 Hm sm n3=>?_⟩;exists ⟨_,_,_,_,rfl,ni'.same sm,n3,sz9 (by lia) ci,Ai (by lia) cj (M0 _) (M1 _) (by lia),λr4 Hn sn n4=>?_⟩;have smn:=sm.trans sn;exists eN (smn _ _ gq) (fh (by lia)) rfl ?_;refine ⟨_,rfl,?_,(kpl.same smn).upd (.inl aq),(bl.same smn).updL (smn _ _ gq)⟩;refine ((Xl.same smn).weak λx' _ y h=>⟨λz=>h.1 ?_,h.2⟩).put MA aq (smn _ _ gq) n4 ⟨λz=>absurd z xd2,?_⟩ ii
     ·rw[fo hs];exact .tail _ z
     ·exact (Fc (by lia) ci cj).mono (by lia)
    ·rintro σ' Hl ⟨w6,rfl,Xl,kpl,bl⟩;refine ⟨_,_,_,_,_,_,um,rfl,Xl.weak λ_ _ y h=>h.2.mono ?_,kpl⟩;rw[<- eW,d5,cg (9^t) 9,cR];exact au _
  ·rintro σ' H' ⟨x1,x2,x3,x4,x5,x6,us',rfl,X,kp⟩;exists cu λr H2' s' g'=>?_
   exact done r us' H2' _ (by lia) g' (X.same s') (kp.same s')
theorem dP:aU ["_law_bag_here","_law_one","_law_other","_law_ahead","_law_behind","_law_found","_law_k"] ["_law_bag_here"] (aN kh):=by walk_at "d"
theorem v9 (T:Txt K mg Z) (ptree:P.given.tree=none):cK P w K mg base fK 5 Z.oT Z.oO ["_law_bag_here"] (Pn K):=by
 have nh:=wa (P:=P) (w:=w) (base:=base) T ptree;have aP:=dS (P:=P) (w:=w) (base:=base) T ptree;have qB:=uh (P:=P) (w:=w) (base:=base) T ptree;refine T.jU.F.ok dP (λvs H Q E h=>?_) (λcdv A outer s H vs Q E hr h=>?_)
 ·obtain ⟨b,rfl,_⟩:=h;rfl
 ·obtain ⟨b,rfl,hB,k⟩:=h
  refine ⟨_,(ar (aS (i:=1) dP.nd rfl (Or.inl rfl) (cH nh hr T.jW (ae (pv 0) (ae ak ai))))
   (ar (aS (i:=2) dP.nd rfl (Or.inl rfl) (cH nh hr T.jW (ae (pv 0) (ae (bI eQ ak (cH aP hr T.aR (ae (pv 0) (ae ak ai)))) ai))))
   (ar (aS (i:=3) dP.nd rfl (Or.inr rfl) (bI NU (dc (ae (cW (ae ak (ae ak ai))) ai)) ak))
   (ar (aS (i:=4) dP.nd rfl (Or.inr rfl) (bI NU (dc (ae (cW (ae ak (ae ak ai))) ai)) (bL be (by rfl) T.len a7 (ae (aW bU (pv 2) ak) ai))))
   (ar (aS (i:=5) dP.nd rfl (Or.inl rfl) (dc ai))
   (ar (dR PassesOwn.never rfl (cE rfl T.range (ae ak ai)) (aO (i:=6) dP.nd)
    (aA (ic (qH cx cD cC gQ (pv 5) (ae (bI jP (bX ["_law_row_here"] ["_law_behind"] [4] (cB (aW bU (pv 1) (pv 6))) (λ_=>(aO (i:=0) (show ND9 ["_law_row_here","_law_behind"] by decide +kernel))) (λ_=>cw) (λ_=>(bI jP (pv 0) (pv 1)))) (bX ["_law_row_here"] ["_law_ahead"] [3] (cB (aW bU (pv 2) (pv 6))) (λ_=>(aO (i:=0) (show ND9 ["_law_row_here","_law_ahead"] by decide +kernel))) (λ_=>cw) (λ_=>(bI jP (pv 1) (pv 0))))) ai)))))
   (aA (aV (cH qB hr T.kD (ae (pv 0) (ae (aW bA (pv 5) ak) (ae (aW bA (pv 5) ak) (ae (aW bA (pv 5) ak) ai))))))))))))),?_⟩
  refine aQ (σ:=[some (.ref b),none,none,none,none,none,none]) rfl ?_;obtain ⟨q0,I0,xq,gq0⟩:=hB.inner;exists ⟨b,3,rfl,hB,by decide,by decide,λr1 mv1 pt1 lk1 H1 P1 lm1 lp1 ll1 D1 fm1 fp1 fl1 B1 u1=>?_⟩;exists ⟨b,3,rfl,B1,by decide,by decide,λv H2 v0 v1 B2 u2=>?_⟩;obtain ⟨v,rfl⟩:=bS v0;have u02:=u1.trans u2;walk_at "w";rw[show ((3:Int)+(v:Int))=((3+v:Nat):Int) by lia];refine ⟨b,3+v,rfl,B2,by lia,by lia,λr2 mv2 pt2 lk2 H3 P2 lm2 lp2 ll2 D2 fm2 fp2 fl2 B3 u3=>?_⟩;have u03:=u02.trans u3;have P1c:=(P1.upto (u2.trans u3) B1 hB.at);have P2c:fW K H H3 r2 mv2 pt2 lk2:=P2.weak λq h=>u02.none B2 h
  exists cu λt0 H4 s4 g4=>?_
  exists cS λa1 H5 s5 n5 g5=>?_
  exists NB (k:=3) g5 (by decide) λah H6 s6 n6 g6=>?_
  have s36:=(s4.trans s5).trans s6;obtain ⟨m1,p1,l1,gt1,m1n,p1n,l1n,Gm1,Gp1,Gl1⟩:=P1c.same s36;obtain ⟨m2,p2,l2,gt2,m2n,p2n,l2n,Gm2,Gp2,Gl2⟩:=P2c.same s36;have N0:b6 K H6 0 (V.ref t0):=b6.mk (q:=0) ((s5.trans s6) _ _ g4) rfl;exists cu λt1 H7 s7 g7=>?_
  exists cS λa2 H8 s8 n8' g8=>?_
  have s68:=s7.trans s8;have gt2':=s68 _ _ gt2;obtain ⟨um2,gm2,qm2,_⟩:=id (Gm2.same s68);have lum2:=qm2.length;exists ⟨_,_,rfl,.inl (bF.of gm2),?_⟩;rw[<- lum2,lm2];exists NB (k:=3+v) g8 (by lia) λbh H9 s9 n9 g9=>?_
  have s69:=s68.trans s9;have s39:=s36.trans s69;have N1:b6 K H9 0 (V.ref t1):=b6.mk (q:=0) ((s8.trans s9) _ _ g7) rfl;have u09:=u03.same s39;have B9:=B3.same s39;have g6':=s69 _ _ g6;have N0':=N0.same s69;exists cS λfd H10 s10 n10 g10=>?_
  have X1:∀i:Nat,i < 3->∃q1 R1 q2 R2,[V.ref m1,V.ref p1,V.ref l1][i]?=some (V.ref q1)/\bB K H H9 q1 R1/\(∀xs∈R1,xs.length=3/\∀y∈xs,Fr 1 1 y)/\[V.ref m2,V.ref p2,V.ref l2][i]?=some (V.ref q2)/\bB K H H9 q2 R2/\(∀xs∈R2,xs.length=3+v/\∀y∈xs,Fr 1 1 y)/\R1.length<=100/\R2.length<=100/\[6+v,2,2][i]?=some (R1.length+R2.length):=λi hi=>by
   rcases (show i=0\/i=1\/i=2 by lia) with rfl | rfl | rfl
   ·exact ⟨m1,mv1,m2,mv2,rfl,Gm1.same s69,λxs hx=>⟨by rw[D1.mw xs hx,lm1],fm1 xs hx⟩,rfl,Gm2.same s69,λxs hx=>⟨by rw[D2.mw xs hx,lm2],fm2 xs hx⟩,by lia,by lia,by rw[lm1,lm2,show 3+(3+v)=6+v by lia];rfl⟩
   ·exact ⟨p1,pt1,p2,pt2,rfl,Gp1.same s69,λxs hx=>⟨by rw[D1.pw xs hx,lm1],fp1 xs hx⟩,rfl,Gp2.same s69,λxs hx=>⟨by rw[D2.pw xs hx,lm2],fp2 xs hx⟩,by lia,by lia,by rw[lp1,lp2];rfl⟩
   ·exact ⟨l1,lk1,l2,lk2,rfl,Gl1.same s69,λxs hx=>⟨by rw[D1.lw xs hx,lm1],fl1 xs hx⟩,rfl,Gl2.same s69,λxs hx=>⟨by rw[D2.lw xs hx,lm2],fl2 xs hx⟩,by lia,by lia,by rw[ll1,ll2];rfl⟩
  exists ⟨by decide,by decide,?_⟩;refine d9 (n:=3) (λi σ' H'=>aI H9 H'/\∃x6 L,σ'=[some (.ref b),some (.ref r1),some (.ref r2),some (.ref ah),some (.ref bh),some (.ref fd),x6]/\VA K H9 H' (6+v) fd L/\L.length=i/\∀(j:Nat) (e:Addr×List V),L[j]?=some e->[6+v,2,2][j]?=some e.2.length) ⟨s10,none,[],rfl,⟨g10,n10,(λ_ z=>nomatch z),nE,(λ_ z=>nomatch z),nE⟩,rfl,λj e h=>by simp at h⟩ ?_ ?_
  ·rintro i σ' H' hi ⟨s',x6,L,rfl,T,lL,hL⟩;obtain ⟨q1,R1,q2,R2,e1,G1,w1,e2,G2,w2,b1,b2,hlen⟩:=X1 i hi;have gt1':=s' _ _ (s69 _ _ gt1);have gt2'':=s' _ _ (s69 _ _ gt2);obtain ⟨ux1,gx1,qx1,_⟩:=id (G1.same s');have gb:=s' _ _ g9;have ga:=s' _ _ g6';exists ⟨.inl ⟨rfl,_,bF.of T.gf⟩,?_⟩;exists Jp (uQ.of gt1') (dA e1) ?_;exists ⟨⟨_,bF.of gx1⟩,?_⟩;refine DR (K:=K) (F:=cY K H) (λH'' c x=>∃q,x=V.ref q/\cz K H'' q c) (λr=>r++List.replicate (3+v) 0) gx1 qx1 (by lia) (λa b=>a.same b) (λa b=>by obtain ⟨q,e,r⟩:=a;exact ⟨q,e,r.same b⟩) (λa=>by obtain ⟨q,e,_,gg,_⟩:=a;exact ⟨q,e,by rw[gg];exact λz=>nomatch z⟩) ?_ ?_
   ·rintro j ns x Hi NY NN en si ⟨q,rfl,_,zs,gz,qz⟩ k1;have ws:=(w1 ns (ao en)).1;have lz:=qz.length;exists kW gz (si _ _ gb) (aT (br (by rw[bK];lia))) λc Hj sj nj gj=>?_
    exact k1 _ _ sj ⟨c,rfl,_,gj,bV (Paired.imp' (λ_ _ z=>z.same sj) qz) (vw (((N1.same s').same si).same sj) _)⟩ ⟨c,rfl,nj⟩
   rintro ys1 Ha c1 hc1 sa ga1 nd1 ne1 pr1;obtain ⟨ux2,gx2,qx2,_⟩:=id ((G2.same s').same sa);have gt2a:=sa _ _ gt2'';exists Jp (uQ.of gt2a) (dA e2) ?_;exists ⟨⟨_,bF.of gx2⟩,?_⟩;refine DR (K:=K) (F:=cY K H) (λH'' c x=>∃q,x=V.ref q/\cz K H'' q c) (λr=>List.replicate 3 0++r) gx2 qx2 (by lia) (λa b=>a.same b) (λa b=>by obtain ⟨q,e,r⟩:=a;exact ⟨q,e,r.same b⟩) (λa=>by obtain ⟨q,e,_,gg,_⟩:=a;exact ⟨q,e,by rw[gg];exact λz=>nomatch z⟩) ?_ ?_
   ·rintro j ns x Hi NY NN en si ⟨q,rfl,_,zs,gz,qz⟩ k1;have ws:=(w2 ns (ao en)).1;have lz:=qz.length;exists kW ((sa.trans si) _ _ ga) gz (aT (br (by rw[bK];lia))) λc Hj sj nj gj=>?_
    exact k1 _ _ sj ⟨c,rfl,_,gj,bV (vw ((((N0'.same s').same sa).same si).same sj) _) (Paired.imp' (λ_ _ z=>z.same sj) qz)⟩ ⟨c,rfl,nj⟩
   rintro ys2 Hb c2 hc2 sb gb2 nd2 ne2 pr2;have sab:=sa.trans sb;have ly1:=pr1.length;have ly2:=pr2.length;rw[aj] at ly1 ly2;exists kW (sb _ _ ga1) gb2 (aT (br (by lia))) λqn Hc sc nc gc=>?_
   have sac:=sab.trans sc;have gfc:=sac _ _ T.gf;exists gL gfc (br (by rw[aj];lia)) ?_
   have rP:∀{c:List Rat} {x:V},(∃q,x=V.ref q/\cz K Hb q c)->(∃q,x=V.ref q/\H' q=none)->c.length=6+v->(∀y∈c,Fr 1 1 y)->fZ K (λz=>H' z=none/\z≠qn) Hc (6+v) (Fr 1 1) x:=λ⟨q,e,r⟩ ⟨q',e',nq⟩ hl hf=>by
    rw[e] at e';cases e';exact ⟨q,_,e,⟨nq,λz=>by obtain ⟨_,gg,_⟩:=r;rw[z,nc] at gg;cases gg⟩,r.same sc,hl,hf⟩
   refine ⟨(s'.trans sac).after n10,some (.int i),L++[(qn,ys1++ys2)],rfl,T.snoc s' sac (sab.none nc) gc ?_ (λx hx=>?_),by rw[aw,bJ,lL],λj e he=>?_⟩
   ·refine dX.mpr ⟨nd1,nd2,λx hx y hy z=>?_⟩;obtain ⟨_,_,q,e,_,gg,_⟩:=dq pr1 hx;obtain ⟨q',e',nq,_⟩:=ne2 y hy;rw[<- z,e] at e';cases e';rw[nq] at gg;cases gg
   ·rcases aH.mp hx with hx | hx
    ·obtain ⟨c,mc,q,e,r⟩:=dq pr1 hx;obtain ⟨ns,mn,rfl⟩:=az.mp mc;obtain ⟨q',e',nq,_⟩:=ne1 x hx;refine rP ⟨q,e,r.same sb⟩ ⟨q',e',nq⟩ (by rw[aw,bK,(w1 ns mn).1];lia) λy hy=>?_
     rcases aH.mp hy with hy | hy
     ·exact (w1 ns mn).2 y hy
     ·rw[(hZ.mp hy).2];exact Fr.zero
    ·obtain ⟨c,mc,q,e,r⟩:=dq pr2 hx;obtain ⟨ns,mn,rfl⟩:=az.mp mc;obtain ⟨q',e',nq,_⟩:=ne2 x hx;refine rP ⟨q,e,r⟩ ⟨q',e',sa.none nq⟩ (by rw[aw,bK,(w2 ns mn).1];lia) λy hy=>?_
     rcases aH.mp hy with hy | hy
     ·rw[(hZ.mp hy).2];exact Fr.zero
     ·exact (w2 ns mn).2 y hy
   ·rcases cN j L.length with z | z
    ·rw[bY z] at he;exact hL j e he
    ·have hj:=(aK.mp he).1;rw[aw,bJ] at hj;have ej:j=L.length:=by lia
     subst ej;rw[bG (au _),jt] at he;cases he;rw[lL,hlen,aw,ly1,ly2]
  ·rintro σ' H' ⟨s',x6,L,rfl,T,lL,hL⟩
   obtain ⟨⟨m,us⟩,⟨p,ws⟩,⟨l,vs⟩,rfl⟩:∃a b c,L=[a,b,c]:=by
    rcases L with _ | ⟨a,_ | ⟨b,_ | ⟨c,_ | ⟨d,L⟩⟩⟩⟩
    ·cases lL
    ·cases lL
    ·cases lL
    ·exact ⟨a,b,c,rfl⟩
    ·simp at lL
   have lu:us.length=6+v:=by have:=hL 0 _ rfl;simpa using this.symm
   have lw:ws.length=2:=by have:=hL 1 _ rfl;simpa using this.symm
   have lv:vs.length=2:=by have:=hL 2 _ rfl;simpa using this.symm
   have gf:=T.gf;obtain ⟨mn,mf,gm⟩:=T.ls (m,us) (by simp);obtain ⟨pn,pf,gp⟩:=T.ls (p,ws) (by simp);obtain ⟨ln,lf,gl⟩:=T.ls (l,vs) (by simp);have nd:=T.nd;have rw':=T.rows;have rd:=T.rd;clear T hL;have gf:H' fd=some (.lst [.ref m,.ref p,.ref l]):=gf;have nd:[m,p,l].Nodup:=nd;have rd:(us++(ws++(vs++[]))).Nodup:=rd;have u0':=u09.same s';have B':=B9.same s';have hm0:H m=none:=u09.none B9 mn;have hp0:H p=none:=u09.none B9 pn;have hl0:H l=none:=u09.none B9 ln;obtain ⟨A,eA⟩:∃A:Addr->Prop,A=λq=>H q=none/\q≠m/\q≠p/\q≠l:=⟨_,rfl⟩
   have mkA:∀{q},H q=none->q≠m->q≠p->q≠l->A q:=λh1 h2 h3 h4=>by rw[eA];exact ⟨h1,h2,h3,h4⟩
   have unA:∀{q},A q->H q=none/\q≠m/\q≠p/\q≠l:=λh=>by rw[eA] at h;exact h
   have nb:∀{q},H q=none->q≠b:=λh z=>hB.at (by rw[<- z];exact h)
   have MA:Iz A m p l b q0:=⟨λz=>(unA z).2.1 rfl,λz=>(unA z).2.2.1 rfl,λz=>(unA z).2.2.2 rfl,λz=>hB.at (unA z).1,(λz=>by have z1:=(unA z).1;rw[gq0] at z1;cases z1),nb hm0,nb hp0,nb hl0,by intro z;subst z;simp at nd,by intro z;subst z;simp at nd,λz=>by rw[<- z,hm0] at gq0;cases gq0⟩;have X:j7 K A H' (6+v) (λ_=>Fr 1 1) m p l b q0 us ws vs:=⟨B',u0'.2 _ I0,gm,gp,gl,lu,λx hx=>?_,?_⟩
   ·exists ⟨b,m,p,l,q0,6+v,1,λ_=>1,A,us,ws,vs,rfl,MA,X,by lia,by lia,by lia,λ_=>Nat.zero_lt_one,λ_=>cA,⟨1,λ_ _ _=>rfl⟩,by decide,λq hq=>?_,λr us' H'' g Y kp=>?_⟩
    ·exact mkA (u0'.none B' hq) (λz=>by rw[z,gm] at hq;cases hq) (λz=>by rw[z,gp] at hq;cases hq) (λz=>by rw[z,gl] at hq;cases hq)
    ·obtain ⟨mv,Gm,lmv,hmv⟩:=ks (H0:=H) (n:=6+v) (C:=Fr 1 (9^3*1)) (m:=6+v) ⟨us',Y.gm,Y.lm,MA.am,λx hx=>Y.row x (by simp [hx])⟩ λq h=>(unA h).1
     obtain ⟨pt,Gp,lpt,hpt⟩:=ks (H0:=H) (n:=6+v) (C:=Fr 1 (9^3*1)) (m:=2) ⟨ws,Y.gp,lw,MA.ap,λx hx=>Y.row x (by simp [hx])⟩ λq h=>(unA h).1
     obtain ⟨lk,Gl,llk,hlk⟩:=ks (H0:=H) (n:=6+v) (C:=Fr 1 (9^3*1)) (m:=2) ⟨vs,Y.gl,lv,MA.al,λx hx=>Y.row x (by simp [hx])⟩ λq h=>(unA h).1
     refine k r mv pt lk H'' ⟨m,p,l,g,hm0,hp0,hl0,Gm,Gp,Gl⟩ (by lia) ⟨by lia,by lia,by lia,λxs hx=>by rw[(hmv xs hx).1,lmv],λxs hx=>by rw[(hpt xs hx).1,lmv],λxs hx=>by rw[(hlk xs hx).1,lmv]⟩ (λxs hx=>(hmv xs hx).2) (λxs hx=>(hpt xs hx).2) (λxs hx=>(hlk xs hx).2) Y.bag ⟨λc' u e n1=>kp c' u (u0'.1 _ _ e n1) n1 (λz=>by have:=(unA z).1;rw[e] at this;cases this) (λz=>by rw[z,hm0] at e;cases e),λq h=>by rw[<- Inner.inj I0 h];exact Y.inn⟩
   ·have hx:∃e∈[(m,us),(p,ws),(l,vs)],x∈e.2:=by
     rcases aH.mp hx with hx | hx
     ·rcases aH.mp hx with hx | hx
      ·exact ⟨(m,us),by simp,hx⟩
      ·exact ⟨(l,vs),by simp,hx⟩
     ·exact ⟨(p,ws),by simp,hx⟩
    obtain ⟨e,he,hx⟩:=hx;refine (rw' e he x hx).weak (λq hq=>?_) (λ_ w=>w);obtain ⟨⟨h1,_⟩,h2⟩:=hq;have h2:q∉[m,p,l]:=h2;simp only[aL,a9,or_false,not_or] at h2;exact mkA (u09.none B9 h1) h2.1 h2.2.1 h2.2.2
   ·rw[lU] at rd
    have e:(us++vs++ws).Perm (us++(ws++vs)):=by
     rw[cJ];exact List.Perm.append_left _ List.perm_append_comm
    exact e.nodup_iff.mpr rd
theorem rj:aU ["_law_bag_here","_law_wide","_law_way"] ["_law_bag_here","_law_wide"] (aN nX):=by walk_at "d"
theorem A5 (T:Txt K mg Z) (ptree:P.given.tree=none):cK P w K mg base fK 2 Z.uO Z.uv ["_law_bag_here","_law_wide"] (Ap K):=by
 have aP:=dS (P:=P) (w:=w) (base:=base) T ptree;have iZ:=mT (P:=P) (w:=w) (base:=base) T ptree;refine T.mC.F.ok rj (λvs H Q E h=>?_) (λcdv A outer s H vs Q E hr h=>?_)
 ·obtain ⟨b,w,rfl,_⟩:=h;rfl
 ·obtain ⟨b,w,rfl,hB,w0,w1,k⟩:=h
  refine ⟨_,(ar (aS (i:=2) rj.nd rfl (Or.inl rfl) (cH aP hr T.aR (ae (pv 0) (ae ak ai))))
   (ar (dh (bw ue (pv 2) ak (bM _)) (aA (aV (cW (ae ak (ae ak ai))))) b8)
   (ar (dh (bw ue (pv 2) ak (bM _)) (aA (aV (cW (ae (bI kX (cH aP hr T.aR (ae (pv 0) (ae ak ai))) ak) (ae ak ai))))) b8)
   (ar (dh (bw fH (pv 2) ak (bM _)) (aA (aV (cH iZ hr T.iV (ae (bI kX (cH aP hr T.aR (ae (pv 0) (ae ak ai))) ak) (ae (bI eQ ak (cH aP hr T.aR (ae (pv 0) (ae ak ai)))) ai))))) b8)
   (aA (aV (cH iZ hr T.iV (ae (bI kX (cH aP hr T.aR (ae (pv 0) (ae (bI eQ (bI dg ak (pv 1)) ak) ai))) (pv 1)) (ae (bI eQ ak (cH aP hr T.aR (ae (pv 0) (ae (pv 1) ai)))) ai))))))))),?_⟩
  refine aQ (σ:=[some (.ref b),some (.int w),none]) rfl ?_;exists ⟨b,8,rfl,hB,by decide,by decide,λv H1 v0 v1 B1 u1=>?_⟩;exists iK (λh0=>?_) (λh0=>?_)
  ·exists cu λr H2 s2 g2=>?_
   exact k r 0 _ ⟨bC _,by show 1<=_;lia⟩ (b6.mk g2 rfl) (B1.same s2) (u1.same s2)
  exists iK (λh1=>?_) (λh1=>?_)
  ·exists ⟨b,7,rfl,B1,by decide,by decide,λa H2 a0 a1 B2 u2=>?_⟩;exists cu λr H3 s3 g3=>?_
   exact k r ((a - 3:Int):Rat) _ ⟨by show (a - 3).natAbs<=_;lia,by show 1<=_;lia⟩ (b6.mk g3 rfl) (B2.same s3) ((u1.trans u2).same s3)
  exists iK (λh2=>?_) (λh2=>?_)
  ·exists ⟨b,13,rfl,B1,by decide,by decide,λa H2 a0 a1 B2 u2=>?_⟩;exists ⟨b,6,rfl,B2,by decide,by decide,λc H3 c0 c1 B3 u3=>?_⟩;exists ⟨_,_,rfl,by lia,(IZ (by lia)).mono (by decide),λr H4 s4 g4=>?_⟩;obtain ⟨q,e,d,_⟩:=JF (t:=a - 6) (b:=1+c) (W:=max w 6) (by lia) (by lia) (by lia);exact k r q _ d (b6.mk g4 e) (B3.same s4) (((u1.trans u2).trans u3).same s4)
  exists ⟨b,_,rfl,B1,by lia,by lia,λa H2 a0 a1 B2 u2=>?_⟩;exists ⟨b,_,rfl,B2,by lia,by lia,λc H3 c0 c1 B3 u3=>?_⟩;exists ⟨_,_,rfl,by lia,(IZ (by lia)).mono (by decide),λr H4 s4 g4=>?_⟩;obtain ⟨q,e,d,_⟩:=JF (t:=a - w) (b:=1+c) (W:=max w 6) (by lia) (by lia) (by lia);exact k r q _ d (b6.mk g4 e) (B3.same s4) (((u1.trans u2).trans u3).same s4)
theorem Gr:aU ["_law_bag_here","_law_many","_law_wide"] ["_law_bag_here","_law_many","_law_wide"] (aN vd):=by walk_at "d"
theorem kL (T:Txt K mg Z) (ptree:P.given.tree=none):cK P w K mg base fK 3 Z.Cb Z.BN ["_law_bag_here","_law_many","_law_wide"] (Gf K):=by
 have CU:=A5 (P:=P) (w:=w) (base:=base) T ptree;refine T.fN.F.ok Gr (λvs H Q E h=>?_) (λcdv A outer s H vs Q E hr h=>?_)
 ·obtain ⟨b,m,w,rfl,_⟩:=h;rfl
 ·obtain ⟨b,m,w,rfl,hB,hm,w0,w1,k⟩:=h;refine ⟨_,(aA (aV (bX ["_law_k"] ["_law_bag_here","_law_wide"] [0,2] (cE rfl T.range (ae (pv 1) ai)) (λ_=>(aO (i:=0) (show ND9 ["_law_k","_law_bag_here","_law_wide"] by decide +kernel))) (λ_=>cw) (λ_=>(cH CU hr T.mC (ae (pv 1) (ae (pv 2) ai))))))),?_⟩;refine aQ (σ:=[some (.ref b),some (.int m),some (.int w)]) rfl ?_;exists ⟨by lia,by lia,?_⟩;refine yi (n:=m) (b6 K) (Dr (max w 6)) hB hm (λa u B=>a.upto u B) ?_ ?_
  ·rintro i H' NY NN hi u B k1;exists ⟨b,w,rfl,B,w0,w1,λr x H2 hx h2 B2 u2=>k1 _ x _ u2 B2 hx h2⟩
  ·rintro ys cs H' p hp u B g lc hc pr nx;exact k p cs H' hp ⟨ys,g,pr⟩ lc hc B u
theorem jL:aU ["_law_bag_here","_law_n","_law_way","_law_first","_law_wide","_law_move_here","_law_i","_law_row_here","_law_j"] ["_law_bag_here","_law_n","_law_way","_law_first","_law_wide"] (aN rQ):=by walk_at "d"
theorem EX (T:Txt K mg Z) (ptree:P.given.tree=none):cK P w K mg base fK 4 Z.zy Z.yV ["_law_bag_here","_law_n","_law_way","_law_first","_law_wide"] (F5 K):=by
 have fE:=kL (P:=P) (w:=w) (base:=base) T ptree;have aP:=dS (P:=P) (w:=w) (base:=base) T ptree;refine T.pY.F.ok jL (λvs H Q E h=>?_) (λcdv A outer s H vs Q E hr h=>?_)
 ·obtain ⟨b,n,w,way,first,rfl,_⟩:=h;rfl
 ·obtain ⟨b,n,w,way,first,rfl,hB,n8,w0,w1,k⟩:=h
  refine ⟨_,(ar (aS (i:=5) jL.nd rfl (Or.inl rfl) (dc ai))
   (ar (dR PassesOwn.never rfl (cE rfl T.range (ae (pv 1) ai)) (aO (i:=6) jL.nd)
    (ar (aS (i:=7) jL.nd rfl (Or.inl rfl) (cH fE hr T.fN (ae (pv 0) (ae (pv 1) (ae (pv 4) ai)))))
   (ar (dR PassesOwn.never rfl (cE rfl T.range (ae (pv 1) ai)) (aO (i:=8) jL.nd)
    (gN (dh (PW.pt (jN (bw fH (pv 2) ak (bM _)) (ky (bw vW (cH aP hr T.aR (ae (pv 0) (ae ak ai))) ak (bM _))))) (aA (fB (cW (ae ak (ae ak ai))) (gP (pv 7) (pv 8) set_list))) b8)
   (gN (dh (PW.pt (jN (bw fH (pv 2) ak (bM _)) (ky (bw ue (bI eQ (pv 6) ak) (pv 1) (bM _))))) (aA (fB (cW (ae (du oQ (by rfl) T.int PyProof.Rows.boot_int (ae (mR fH (pv 8) (bI eQ (pv 6) ak) (bM _)) ai)) (ae ak ai))) (gP (pv 7) (pv 8) set_list))) b8)
   (gN (dh (PW.pt (tZ (PW.pt (jN (bw fH (pv 2) ak (bM _)) (jN (bw Dy (pv 6) (pv 3) (bM _)) (ky (bw ue (pv 8) (pv 3) (bM _)))))) (pH (PW.pt (jN (bw fH (pv 2) ak (bM _)) (jN (bw ue (pv 6) (pv 3) (bM _)) (ky (bw Dy (pv 8) (pv 3) (bM _))))))))) (aA (fB (cW (ae ak (ae ak ai))) (gP (pv 7) (pv 8) set_list))) b8)
   (aA (dh (bw fH (pv 2) ak (bM _)) (aA (fB (cW (ae (bI dg (aW bA (dc (ae ak (ae ak (ae (t9 nK ak) (ae ak ai))))) (bI oa (pv 3) ak)) (du oQ (by rfl) T.int PyProof.Rows.boot_int (ae (mR fH (pv 6) (pv 8) (bM _)) ai))) (ae ak ai))) (gP (pv 7) (pv 8) set_list))) b8))))))
   (aA (ic (qH cx cD cC gQ (pv 5) (ae (pv 7) ai)))))))
   (aA (aV (pv 5))))),?_⟩
  refine aQ (σ:=[some (.ref b),some (.int n),some (.int way),some (.int first),some (.int w),none,none,none,none]) rfl ?_;have W1:1<=max w 6:=by lia
  exists cS λr H1 s1 n1 g1=>?_
  have rb:r≠b:=λz=>hB.at (by rw[<- z];exact n1)
  obtain ⟨q0,I0,xs0,gq0⟩:=hB.inner;have I1:Inner H1 b q0:=(s1.upto (p:=b)).2 _ I0;obtain ⟨A,eA⟩:∃A:Addr->Prop,A=λq=>H q=none/\q≠r:=⟨_,rfl⟩
  have nb:¬A b:=by rw[eA];exact λz=>hB.at z.1
  have nr:¬A r:=by rw[eA];exact λz=>z.2 rfl
  have nq:¬A q0:=by rw[eA];exact λz=>by have z1:=z.1;rw[gq0] at z1;cases z1
  have rq:r≠q0:=λz=>by rw[<- z,n1] at gq0;cases gq0
  exists ⟨by lia,by lia,?_⟩;refine d9 (n:=n) (λi σ' H'=>∃(x1 x2 x3:Option V) (us:List V),σ'=[some (.ref b),some (.int n),some (.int way),some (.int first),some (.int w),some (.ref r),x1,x2,x3]/\H' r=some (.lst us)/\us.length=i/\us.Nodup/\(∀x∈us,fZ K A H' n (Dr (max w 6)) x)/\gh H' b/\Inner H' b q0/\cI b H H') ⟨none,none,none,[],rfl,g1,rfl,nE,(λ_ z=>nomatch z),hB.same s1,I1,s1.upto⟩ ?_ ?_
  ·rintro i σ' H' hi ⟨x1,x2,x3,us,rfl,gu,lu,nd,ru,B',I',u'⟩;exists ⟨b,n,w,rfl,B',by lia,w0,w1,λp xs Ha np Ra la da Ba ua=>?_⟩;have hp0:H p=none:=u'.none B' np
   have pn:V.ref p∉us:=λz=>by
    obtain ⟨q',_,_,e',_,g',_⟩:=(ru _ z).at;cases e';rw[np] at g';cases g'
   have ap':H p=none/\p≠r:=⟨hp0,λz=>by rw[z,gu] at np;cases np⟩;have ap:A p:=by rw[eA];exact ap'
   have X0:Lz K A n (Dr (max w 6)) r p b q0 us H Ha:=⟨ua.other rb gu,λx hx=>(ru x hx).upto ua B' nb,⟨p,xs,rfl,ap,Ra,la,da⟩,Ba,ua.2 _ I',u'.trans ua⟩;clear ru Ra gu;exists ⟨by lia,by lia,?_⟩;refine d9 (n:=n) (λj σ' H'=>(∃x3,σ'=[some (.ref b),some (.int n),some (.int way),some (.int first),some (.int w),some (.ref r),some (.int i),some (.ref p),x3])/\Lz K A n (Dr (max w 6)) r p b q0 us H H') ⟨⟨_,rfl⟩,X0⟩ ?_ ?_
   ·rintro j σ' Hj hj ⟨⟨x3,rfl⟩,X⟩;exists ⟨λσ' H'=>σ'=[some (.ref b),some (.int n),some (.int way),some (.int first),some (.int w),some (.ref r),some (.int i),some (.ref p),some (.int j)]/\Lz K A n (Dr (max w 6)) r p b q0 us H H',?_,?_⟩
    ·exists iK (λ_=>?_) (λ_=>?_)
     ·exists ⟨b,3,rfl,X.bag,by decide,by decide,λd Hd d0 d1 Bd ud=>?_⟩;replace X:=X.upto ud Bd nb rb
      repeat' (first | walk_at "rd" | refine iK (λ_=>?_) (λ_=>?_))
      all_goals first
       | exact ⟨rfl,X⟩
       | (refine cu λt Hb sb gb=>?_;walk_at "w";obtain ⟨zs,gz,lz,Xz⟩:=(X.same sb).put ap nr nb nq hp0 (b6.mk (q:=0) gb rfl) (sX (i:=0) (bC _) W1) j;refine eN gz (fh (by lia)) rfl ?_;exact ⟨rfl,Xz⟩)
     ·exists ⟨rfl,X⟩
    clear X;rintro σ' Hj ⟨rfl,X⟩;refine ⟨λσ' H'=>σ'=[some (.ref b),some (.int n),some (.int way),some (.int first),some (.int w),some (.ref r),some (.int i),some (.ref p),some (.int j)]/\Lz K A n (Dr (max w 6)) r p b q0 us H H',?_,?_⟩
    ·repeat' (first | walk_at "rd" | refine iK (λ_=>?_) (λ_=>?_))
     all_goals first
      | exact ⟨rfl,X⟩
      | (refine cu λt Hb sb gb=>?_;walk_at "w";obtain ⟨zs,gz,lz,Xz⟩:=(X.same sb).put ap nr nb nq hp0 (b6.mk (q:=((if decide ((j:Int)=(i:Int)+1)=true then (1:Int) else 0:Int):Rat)) gb rfl) (sX (by split <;> lia) W1) j;refine eN gz (fh (by lia)) rfl ?_;exact ⟨rfl,Xz⟩)
    clear X;rintro σ' Hj ⟨rfl,X⟩;refine ⟨λσ' H'=>σ'=[some (.ref b),some (.int n),some (.int way),some (.int first),some (.int w),some (.ref r),some (.int i),some (.ref p),some (.int j)]/\Lz K A n (Dr (max w 6)) r p b q0 us H H',?_,?_⟩
    ·repeat' (first | walk_at "rd" | refine iK (λ_=>?_) (λ_=>?_))
     all_goals first
      | exact ⟨rfl,X⟩
      | (refine cu λt Hb sb gb=>?_;walk_at "w";obtain ⟨zs,gz,lz,Xz⟩:=(X.same sb).put ap nr nb nq hp0 (b6.mk (q:=0) gb rfl) (sX (i:=0) (bC _) W1) j;refine eN gz (fh (by lia)) rfl ?_;exact ⟨rfl,Xz⟩)
    clear X;rintro σ' Hj ⟨rfl,X⟩;exists iK (λ_=>?_) (λ_=>?_)
    ·exists cS λl0 Hc sc nc gc=>?_
     walk_at "w";obtain ⟨x,ex,mx,_⟩:=j4 (xs:=[V.int 2,V.int 1,V.int (-1),V.int 0]) (i:=first % 4) (lV _ (by decide)) (by have:=jv first (show (0:Int) < 4 by decide);simpa using this)
     obtain ⟨z,rfl,hz⟩:∃z:Int,x=.int z/\z.natAbs<=2:=by
      simp only[aL,a9,or_false] at mx;rcases mx with rfl | rfl | rfl | rfl
      ·exact ⟨2,rfl,by decide⟩
      ·exact ⟨1,rfl,by decide⟩
      ·exact ⟨-1,rfl,by decide⟩
      ·exact ⟨0,rfl,by decide⟩
     refine cn (bF.of gc) ex ?_;exists fY (Fj (by lia) (by lia)) ?_;exists cu λt Hb sb gb=>?_
     walk_at "w";obtain ⟨zs,gz,lz,Xz⟩:=((X.same sc).same sb).put ap nr nb nq hp0 (b6.mk (q:=((z*(if decide ((i:Int)=(j:Int))=true then (1:Int) else 0):Int):Rat)) gb rfl) (sX (by split <;> lia) W1) j;refine eN gz (fh (by lia)) rfl ?_;exact ⟨⟨_,rfl⟩,Xz⟩
    ·exists ⟨⟨_,rfl⟩,X⟩
   ·rintro σ' Hj ⟨⟨x3,rfl⟩,X⟩;exists ⟨.inl ⟨rfl,_,bF.of X.gr⟩,?_⟩;exists gL X.gr (br (by lia)) ?_;refine ⟨_,_,_,us++[.ref p],rfl,aJ,by simp [lu],pN nd pn,λx hx=>?_,X.bag.upd X.inn rb rq,X.inn.upd rb,X.up.after n1⟩;rcases aH.mp hx with hx | hx
    ·exact (X.ru x hx).other X.gr nr
    ·have e:x=V.ref p:=by simpa using hx
     rw[e];exact X.rp.other X.gr nr
  ·rintro σ' H' ⟨x1,x2,x3,us,rfl,gu,lu,nd,ru,B',I',u'⟩;exists k r us H' n1 gu lu nd (by rw[eA] at ru;exact ru) B' u'
theorem eF:aU ["_law_bag_here","_law_n","_law_ins","_law_outs","_law_wide","_law_way","_law_first","_law_move_here","_law_put","_law_look","_law_k","_law_row_here"] ["_law_bag_here","_law_n","_law_ins","_law_outs","_law_wide"] (aN pC):=by walk_at "d"
theorem CI (T : Txt K mg Z) (ptree : P.given.tree = none) : cK P w K mg base fK 5 Z.xn Z.wQ ["_law_bag_here", "_law_n", "_law_ins", "_law_outs", "_law_wide"] (C9 K) := by
  have aP := dS (P := P) (w := w) (base := base) T ptree;have IJ := EX (P := P) (w := w) (base := base) T ptree;have fE := kL (P := P) (w := w) (base := base) T ptree;have qB := uh (P := P) (w := w) (base := base) T ptree;refine T.ox.F.ok eF (λvs H Q E h => ?_) (λcdv A outer s H vs Q E hr h => ?_)
  · obtain ⟨b, n, i, o, w, c, rfl, _⟩ := h;rfl
  · obtain ⟨b, n, i, o, w, c, rfl, hB, n8, i4, o4, w0, w1, hc, hc20, hcM, k⟩ := h
    refine ⟨_, (ar (aS (i := 5) eF.nd rfl (Or.inl rfl) (cH aP hr T.aR (ae (pv 0) (ae ak ai))))
      (ar (aS (i := 6) eF.nd rfl (Or.inl rfl) (cH aP hr T.aR (ae (pv 0) (ae (bI eQ (pv 1) ak) ai))))
      (ar (aS (i := 7) eF.nd rfl (Or.inl rfl) (cH IJ hr T.pY (ae (pv 0) (ae (pv 1) (ae (pv 5) (ae (pv 6) (ae (pv 4) ai)))))))
      (ar (mQ 8 ["_law_k"] ["_law_bag_here", "_law_n", "_law_wide"] [0, 1, 4] eF.nd rfl rfl (cE rfl T.range (ae (pv 2) ai)) (λ_ => (aO (i := 0) (show List.Nodup (α := PySem.Str) ["_law_k", "_law_bag_here", "_law_n", "_law_wide"] by decide +kernel))) (λ_ => cw) (λ_ => (cH fE hr T.fN (ae (pv 1) (ae (pv 2) (ae (pv 3) ai))))))
      (ar (mQ 9 ["_law_k"] ["_law_bag_here", "_law_n", "_law_wide"] [0, 1, 4] eF.nd rfl rfl (cE rfl T.range (ae (pv 3) ai)) (λ_ => (aO (i := 0) (show List.Nodup (α := PySem.Str) ["_law_k", "_law_bag_here", "_law_n", "_law_wide"] by decide +kernel))) (λ_ => cw) (λ_ => (cH fE hr T.fN (ae (pv 1) (ae (pv 2) (ae (pv 3) ai))))))
      (ar (dR PassesOwn.never rfl (cE rfl T.range (ae (pv 1) ai)) (aO (i := 10) eF.nd)
        (ar (dR PassesOwn.never rfl (cB (pv 8)) (aO (i := 11) eF.nd)
        (aA (dh (PW.pt (tZ (PW.pt (jN (bw fH (pv 5) ak (bM _)) (ky (bw Dy (pv 10) (pv 6) (bM _))))) (pH (PW.pt (jN (bw fH (pv 5) ak (bM _)) (jN (bw ue (bI eQ (pv 10) ak) (pv 1) (bM _)) (ky (bw fH (cH aP hr T.aR (ae (pv 0) (ae ak ai))) ak (bM _))))))))) (aA (fB (cW (ae ak (ae ak ai))) (gP (pv 11) (pv 10) set_list))) b8)))
      (aA (dR PassesOwn.never rfl (cB (pv 9)) (aO (i := 11) eF.nd)
        (aA (dh (PW.pt (tZ (PW.pt (jN (bw fH (pv 5) ak (bM _)) (ky (bw Dy (pv 10) (pv 6) (bM _))))) (pH (PW.pt (jN (bw fH (pv 5) ak (bM _)) (jN (bw vW (pv 10) ak (bM _)) (ky (bw fH (cH aP hr T.aR (ae (pv 0) (ae ak ai))) ak (bM _))))))))) (aA (fB (cW (ae ak (ae ak ai))) (gP (pv 11) (pv 10) set_list))) b8))))))
      (aA (aV (cH qB hr T.kD (ae (pv 0) (ae (pv 7) (ae (pv 8) (ae (pv 9) ai))))))))))))), ?_⟩
    refine aQ (σ := [some (.ref b), some (.int n), some (.int i), some (.int o), some (.int w), none, none, none, none, none, none, none]) rfl ?_;have W1 : 1 ≤ max w 6 := by lia
    obtain ⟨q0, I0, xs0, gq0⟩ := hB.inner;exists ⟨b, 6, rfl, hB, by decide, by decide, λway H1 a0 a1 B1 u1 => ?_⟩;exists ⟨b, _, rfl, B1, by lia, by lia, λfirst H2 f0 f1 B2 u2 => ?_⟩;have u02 := u1.trans u2;exists ⟨b, n, w, way, first, rfl, B2, n8, w0, w1, λm us H3 nm0 gm lm ndm rm B3 u3 => ?_⟩;have u03 := u02.trans u3;exists ⟨by lia, by lia, ?_⟩;refine DT (n := i) (b := b) (cY K H3) (λxs => xs.length = n /\ ∀ x ∈ xs, Dr (max w 6) x) B3 (by lia) (λa u B => a.upto u B B3.at) (λ⟨q, e, _, _, g, _⟩ => ⟨q, e, by rw [g]; exact λz => nomatch z⟩) ?_ ?_
    · rintro s H' NY NN hi u B k1;exists ⟨b, n, w, rfl, B, by lia, w0, w1, λr xs H2 nr R lx dx B2 u2 => k1 _ xs _ u2 B2 ⟨lx, dx⟩ ⟨r, rfl, u.none B nr, R⟩ ⟨r, rfl, nr⟩⟩
    rintro ws puts H4 p np u4 B4 gp lp ndp hp pr4 nx4;have u04 := u03.trans u4;exists ⟨by lia, by lia, ?_⟩;refine DT (n := o) (b := b) (cY K H4) (λxs => xs.length = n /\ ∀ x ∈ xs, Dr (max w 6) x) B4 (by lia) (λa u B => a.upto u B B4.at) (λ⟨q, e, _, _, g, _⟩ => ⟨q, e, by rw [g]; exact λz => nomatch z⟩) ?_ ?_
    · rintro s H' NY NN hi u B k1;exists ⟨b, n, w, rfl, B, by lia, w0, w1, λr xs H2 nr R lx dx B2 u2 => k1 _ xs _ u2 B2 ⟨lx, dx⟩ ⟨r, rfl, u.none B nr, R⟩ ⟨r, rfl, nr⟩⟩
    rintro vs looks H5 l nl u5 B5 gl ll ndl hl pr5 nx5;have u05 := u04.trans u5;have hm0 : H m = none := u02.none B2 nm0;have hp0 : H p = none := u03.none B3 np;have hl0 : H l = none := u04.none B4 nl;have mb : m ≠ b := λz => B2.at (by rw [<- z]; exact nm0)
    have pb : p ≠ b := λz => B3.at (by rw [<- z]; exact np)
    have lb : l ≠ b := λz => B4.at (by rw [<- z]; exact nl)
    have gm4 := u4.other mb gm;have gm5 := u5.other mb gm4;have gp5 := u5.other pb gp;have mp : m ≠ p := λz => by rw [z, np] at gm; cases gm
    have ml : m ≠ l := λz => by rw [z, nl] at gm4; cases gm4
    have pl : p ≠ l := λz => by rw [z, nl] at gp; cases gp
    have mq : m ≠ q0 := λz => Inner.at B2 (u02.2 _ I0) (by rw [<- z]; exact nm0)
    obtain ⟨A, eA⟩ : ∃ A : Addr → Prop, A = λq => H q = none /\ q ≠ m /\ q ≠ p /\ q ≠ l := ⟨_, rfl⟩
    have mkA : ∀ {q}, H q = none → q ≠ m → q ≠ p → q ≠ l → A q := λh1 h2 h3 h4 => by rw [eA]; exact ⟨h1, h2, h3, h4⟩
    have unA : ∀ {q}, A q → H q = none /\ q ≠ m /\ q ≠ p /\ q ≠ l := λh => by rw [eA] at h; exact h
    have MA : Iz A m p l b q0 := ⟨λz => (unA z).2.1 rfl, λz => (unA z).2.2.1 rfl, λz => (unA z).2.2.2 rfl, λz => hB.at (unA z).1, (λz => by have z1 := (unA z).1; rw [gq0] at z1; cases z1), mb, pb, lb, mp, ml, mq⟩;clear eA;have lws : ws.length = i := by rw [<- pr4.length]; exact lp
    have lvs : vs.length = o := by rw [<- pr5.length]; exact ll
    have alM : ∀ q, V.ref q ∈ us → H3 q ≠ none /\ q ≠ b /\ H4 q ≠ none := λq hq => by
      obtain ⟨q', qs, e, ⟨a1, a2⟩, r, z⟩ := rm _ hq;cases e;have qb : q ≠ b := λy => B2.at (by rw [<- y]; exact a1)
      obtain ⟨xq, gq, _⟩ := id r;obtain ⟨xq4, gq4, _⟩ := r.upto u4 B3 qb;exact ⟨(by rw [gq]; exact λz => nomatch z), qb, (by rw [gq4]; exact λz => nomatch z)⟩
    have alP : ∀ q, V.ref q ∈ ws → H3 q = none /\ H4 q ≠ none := λq hq => by
      obtain ⟨_, _, q', e, a, _, g, _⟩ := dq pr4 hq;cases e;exact ⟨a, by rw [g]; exact λz => nomatch z⟩
    have alL : ∀ q, V.ref q ∈ vs → H4 q = none := λq hq => by
      obtain ⟨_, _, q', e, a, _⟩ := dq pr5 hq;cases e;exact a
    have isR : ∀ x, x ∈ us \/ x ∈ ws \/ x ∈ vs → ∃ q, x = V.ref q := λx hx => by
      rcases hx with hx | hx | hx
      · obtain ⟨q, _, e, _⟩ := rm x hx; exact ⟨q, e⟩
      · obtain ⟨_, _, q, e, _⟩ := dq pr4 hx; exact ⟨q, e⟩
      · obtain ⟨_, _, q, e, _⟩ := dq pr5 hx; exact ⟨q, e⟩
    have nd : (us ++ vs ++ ws).Nodup := by
      refine dX.mpr ⟨dX.mpr ⟨ndm, ndl, λx hx y hy e => ?_⟩, ndp, λx hx y hy e => ?_⟩
      · subst e;obtain ⟨q, rfl⟩ := isR x (.inl hx);exact (alM q hx).2.2 (alL q hy)
      · subst e;obtain ⟨q, rfl⟩ := isR x (.inr (.inl hy));rcases aH.mp hx with hx | hx
        · exact (alM q hx).1 (alP q hy).1
        · exact (alP q hy).2 (alL q hx)
    have X5 : JX K A n (Dr (max w 6)) m p l b q0 us ws vs H H5 := by
      refine ⟨⟨B5, u05.2 _ I0, gm5, gp5, gl, lm, λx hx => ?_, nd⟩, gp5, gl, λc u e n1 _ _ => u05.1 c u e n1⟩;rcases aH.mp hx with hx | hx
      · rcases aH.mp hx with hx | hx
        · obtain ⟨q, qs, e, ⟨a1, a2⟩, r, z⟩ := rm x hx;obtain ⟨xq, gq, _⟩ := id r;have qb : q ≠ b := λy => B2.at (by rw [<- y]; exact a1)
          have r4 := r.upto u4 B3 qb;obtain ⟨xq4, gq4, _⟩ := id r4;exact ⟨q, qs, e, mkA (u02.none B2 a1) a2 (λy => by rw [y, np] at gq; cases gq) (λy => by rw [y, nl] at gq4; cases gq4), r4.upto u5 B4 qb, z⟩
        · refine Jn (A := A) pr5 hl (λq hq a b' => ?_) x hx;exact mkA (u04.none B4 a) (λy => by rw [y, gm4] at a; cases a) (λy => by rw [y, gp] at a; cases a) (λy => jD nx5 (by rw [<- y]; exact hq))
      · refine fZ.upto (Jn (A := A) pr4 hp (λq hq a b' => ?_) x hx) u5 B4 MA.ab;exact mkA (u03.none B3 a) (λy => by rw [y, gm] at a; cases a) (λy => jD nx4 (by rw [<- y]; exact hq)) (λy => b' (by rw [y]; exact nl))
    clear alM alP alL isR rm pr4 pr5 nx4 nx5 gm gm4 gm5 gp gp5 gl hp hl;exists ⟨by lia, by lia, ?_⟩;refine d9 (n := n) (λkk σ' H' => (∃ x1 x2, σ' = [some (.ref b), some (.int n), some (.int i), some (.int o), some (.int w), some (.int way), some (.int first), some (.ref m), some (.ref p), some (.ref l), x1, x2]) /\ JX K A n (Dr (max w 6)) m p l b q0 us ws vs H H') ⟨⟨_, _, rfl⟩, X5⟩ ?_ ?_
    · rintro kk σ' Hj hk ⟨⟨x1, x2, rfl⟩, X⟩;exists ⟨⟨_, bF.of X.gp⟩, ?_⟩;refine iX (K := K) (a := p) (xs := ws) (λs σ' H' => (∃ x2, σ' = [some (.ref b), some (.int n), some (.int i), some (.int o), some (.int w), some (.int way), some (.int first), some (.ref m), some (.ref p), some (.ref l), some (.int kk), x2]) /\ JX K A n (Dr (max w 6)) m p l b q0 us ws vs H H') ⟨⟨_, rfl⟩, X⟩ (λs σ' H' _ ⟨_, e⟩ => bF.of e.gp) ?_ ?_
      · rintro s x σ' Hk hx ⟨⟨y2, rfl⟩, X⟩;have mx := ao hx;obtain ⟨q, _, rfl, _⟩ := X.row (.inl mx)
        repeat' (first | walk_at "rd" | refine iK (λ_ => ?_) (λ_ => ?_))
        all_goals first
          | exact ⟨⟨_, rfl⟩, X⟩
          | (refine cu λt Hb sb gb => ?_; walk_at "w"; obtain ⟨zs, gz, lz, Xz⟩ := (X.same sb).put MA (.inl mx) (b6.mk (q := 0) gb rfl) (sX (i := 0) (bC _) W1) kk; refine eN gz (fh (by lia)) rfl ?_; exact ⟨⟨_, rfl⟩, Xz⟩)
          | (refine ⟨b, 2, rfl, X.mix.bag, by decide, by decide, λd Hd d0 d1 Bd ud => ?_⟩
             replace X := X.upto MA ud Bd
             repeat' (first | walk_at "rd" | refine iK (λ_ => ?_) (λ_ => ?_))
             all_goals first
               | exact ⟨⟨_, rfl⟩, X⟩
               | (refine cu λt Hb sb gb => ?_
                  walk_at "w";obtain ⟨zs, gz, lz, Xz⟩ := (X.same sb).put MA (.inl mx) (b6.mk (q := 0) gb rfl) (sX (i := 0) (bC _) W1) kk;refine eN gz (fh (by lia)) rfl ?_;exact ⟨⟨_, rfl⟩, Xz⟩))
      · rintro σ' Hk ⟨⟨y2, rfl⟩, X⟩;exists ⟨⟨_, bF.of X.gl⟩, ?_⟩;refine iX (K := K) (a := l) (xs := vs) (λs σ' H' => (∃ x2, σ' = [some (.ref b), some (.int n), some (.int i), some (.int o), some (.int w), some (.int way), some (.int first), some (.ref m), some (.ref p), some (.ref l), some (.int kk), x2]) /\ JX K A n (Dr (max w 6)) m p l b q0 us ws vs H H') ⟨⟨_, rfl⟩, X⟩ (λs σ' H' _ ⟨_, e⟩ => bF.of e.gl) ?_ ?_
        · rintro s x σ' Hk hx ⟨⟨y2, rfl⟩, X⟩;have mx := ao hx;obtain ⟨q, _, rfl, _⟩ := X.row (.inr mx)
          repeat' (first | walk_at "rd" | refine iK (λ_ => ?_) (λ_ => ?_))
          all_goals first
            | exact ⟨⟨_, rfl⟩, X⟩
            | (refine cu λt Hb sb gb => ?_; walk_at "w"; obtain ⟨zs, gz, lz, Xz⟩ := (X.same sb).put MA (.inr mx) (b6.mk (q := 0) gb rfl) (sX (i := 0) (bC _) W1) kk; refine eN gz (fh (by lia)) rfl ?_; exact ⟨⟨_, rfl⟩, Xz⟩)
            | (refine ⟨b, 2, rfl, X.mix.bag, by decide, by decide, λd Hd d0 d1 Bd ud => ?_⟩
               replace X := X.upto MA ud Bd
               repeat' (first | walk_at "rd" | refine iK (λ_ => ?_) (λ_ => ?_))
               all_goals first
                 | exact ⟨⟨_, rfl⟩, X⟩
                 | (refine cu λt Hb sb gb => ?_
                    walk_at "w";obtain ⟨zs, gz, lz, Xz⟩ := (X.same sb).put MA (.inr mx) (b6.mk (q := 0) gb rfl) (sX (i := 0) (bC _) W1) kk;refine eN gz (fh (by lia)) rfl ?_;exact ⟨⟨_, rfl⟩, Xz⟩))
        · rintro σ' Hk ⟨⟨y2, rfl⟩, X⟩;exact ⟨⟨_, _, rfl⟩, X⟩
    · rintro σ' Hj ⟨⟨x1, x2, rfl⟩, X⟩
      obtain ⟨M1, M2, M3, V0, a1, a2, a3, V2, hcs, R1, R2, R3⟩ : ∃ M1 M2 M3 V0 : Nat, (0 < M1 /\ M1 ≤ 2 ^ 800) /\ (0 < M2 /\ M2 ≤ 2 ^ 800) /\ (0 < M3 /\ M3 ≤ 2 ^ 800) /\ V0 ≤ 2 ^ 20 /\ ((w ≤ 9 /\ M1 = 2520 /\ M2 = 2520 /\ M3 = 2520 /\ V0 = 9) \/ (9 < w /\ M1 ≤ 2 ^ (c * (n * n)) /\ M2 ≤ 2 ^ (c * (i * n)) /\ M3 ≤ 2 ^ (c * (o * n)) /\ V0 = 2 ^ c)) /\ (∀ x ∈ us, fZ K A Hj n (Fr M1 V0) x) /\ (∀ x ∈ ws, fZ K A Hj n (Fr M2 V0) x) /\ ∀ x ∈ vs, fZ K A Hj n (Fr M3 V0) x := by
        by_cases w9 : w ≤ 9
        · have XM := X.mix.weak (C' := λ_ => Fr 2520 9) λ_ _ y h => OJ ⟨ag h.1 (by lia), ag h.2 (by lia)⟩ (Ad _)
          have z : 0 < 2520 /\ 2520 ≤ 2 ^ 800 := ⟨by decide, ag (show 2520 ≤ 2 ^ 12 by decide) (av (by decide) (by decide))⟩;exact ⟨2520, 2520, 2520, 9, z, z, z, by decide, .inl ⟨w9, rfl, rfl, rfl, rfl⟩, λx hx => XM.row x (by simp [hx]), λx hx => XM.row x (by simp [hx]), λx hx => XM.row x (by simp [hx])⟩
        · obtain ⟨M1, M2, M3, a1, a2, a3, b1, b2, b3, R1, R2, R3⟩ := (X.mix.weak (C' := λ_ => Dr (2 ^ c)) λ_ _ y h => ⟨ag h.1 hc, ag h.2 hc⟩).fr3;rw [lws] at b2;rw [lvs] at b3;have up : ∀ {M k : Nat}, M ≤ 2 ^ (c * k) → k ≤ (n + i + o) * n → M ≤ 2 ^ 800 := λh hk => ag h (av (by decide) (ag (aD _ hk) hcM))
          exact ⟨M1, M2, M3, 2 ^ c, ⟨a1, up b1 (aG _ (by lia))⟩, ⟨a2, up b2 (aG _ (by lia))⟩, ⟨a3, up b3 (aG _ (by lia))⟩, av (by decide) hc20, .inr ⟨by lia, b1, b2, b3, rfl⟩, R1, R2, R3⟩
      obtain ⟨μ, e2, e3, e1, e4⟩ := Ob ws vs M1 M2 M3;obtain ⟨ap1, ap2⟩ := X.mix.apart
      have XM : j7 K A Hj n (λx => Fr (μ x) V0) m p l b q0 us ws vs := by
        refine ⟨X.mix.bag, X.mix.inn, X.mix.gm, X.mix.gp, X.mix.gl, X.mix.lm, λx hx => ?_, X.mix.nd⟩;rcases aH.mp hx with hx | hx
        · rcases aH.mp hx with hx | hx
          · rw [e1 x (ap1 x hx).1 (ap1 x hx).2]; exact R1 x hx
          · rw [e3 x hx (ap2 x hx)]; exact R3 x hx
        · rw [e2 x hx]; exact R2 x hx
      have p1 : ∀ x, 0 < μ x := λx => by
        rcases e4 x with e | e | e
        · rw [e]; exact a1.1
        · rw [e]; exact a2.1
        · rw [e]; exact a3.1
      have p2 : ∀ x, μ x ≤ 2 ^ 800 := λx => by
        rcases e4 x with e | e | e
        · rw [e]; exact a1.2
        · rw [e]; exact a2.2
        · rw [e]; exact a3.2
      have gmj := X.mix.gm;exists ⟨b, m, p, l, q0, n, V0, μ, A, us, ws, vs, rfl, MA, XM, n8, by lia, by lia, p1, p2, ⟨M1, e1⟩, V2, λq hq => ?_, λr us' H' g Y kp => ?_⟩
      · refine mkA ?_ (λz => by rw [z, gmj] at hq; cases hq) (λz => by rw [z, X.gp] at hq; cases hq) (λz => by rw [z, X.gl] at hq; cases hq);cases e : H q with
        | none => rfl
        | some u =>
          have := X.kp q u e (λz => X.mix.bag.at (by rw [<- z]; exact hq)) (λz => by have := (unA z).1; rw [e] at this; cases this) (λz => by rw [z, hm0] at e; cases e);rw [hq] at this; cases this
      · obtain ⟨yp1, yp2⟩ := Y.apart;obtain ⟨mv, Gm, lmv, hmv⟩ := ks (H0 := H) (n := n) (C := Fr M1 (9 ^ 3 * V0)) (m := n) ⟨us', Y.gm, Y.lm, MA.am, λx hx => by have := Y.row x (by simp [hx]); rwa [e1 x (yp1 x hx).1 (yp1 x hx).2] at this⟩ λq h => (unA h).1
        obtain ⟨pt, Gp, lpt, hpt⟩ := ks (H0 := H) (n := n) (C := Fr M2 (9 ^ 3 * V0)) (m := i) ⟨ws, Y.gp, lws, MA.ap, λx hx => by have := Y.row x (by simp [hx]); rwa [e2 x hx] at this⟩ λq h => (unA h).1
        obtain ⟨lk, Gl, llk, hlk⟩ := ks (H0 := H) (n := n) (C := Fr M3 (9 ^ 3 * V0)) (m := o) ⟨vs, Y.gl, lvs, MA.al, λx hx => by have := Y.row x (by simp [hx]); rwa [e3 x hx (yp2 x hx)] at this⟩ λq h => (unA h).1
        refine k r mv pt lk H' ⟨m, p, l, g, hm0, hp0, hl0, Gm, Gp, Gl⟩ lmv lpt llk ⟨by lia, by lia, by lia, λxs hx => by rw [(hmv xs hx).1, lmv], λxs hx => by rw [(hpt xs hx).1, lmv], λxs hx => by rw [(hlk xs hx).1, lmv]⟩ ⟨M1, M2, M3, 9 ^ 3 * V0, a1.1, a2.1, a3.1, λxs hx => (hmv xs hx).2, λxs hx => (hpt xs hx).2, λxs hx => (hlk xs hx).2, ?_⟩ Y.bag ⟨λc' u e n1 => (X.kp.trans kp) c' u e n1 (λz => by have := (unA z).1; rw [e] at this; cases this) (λz => by rw [z, hm0] at e; cases e), λq h => by rw [<- Inner.inj I0 h]; exact Y.inn⟩;rcases hcs with ⟨b1, b2, b3, b4, b5⟩ | ⟨b1, b2, b3, b4, b5⟩
        · exact .inl ⟨b1, b2, b3, b4, by rw [b5]⟩
        · exact .inr ⟨b1, b2, b3, b4, by rw [b5]⟩
theorem iO:aU ["_law_bag_here","_law_n","_law_ins","_law_outs","_law_wide"] ["_law_bag_here"] (aN nV):=by walk_at "d"
theorem A2 (T:Txt K mg Z) (ptree:P.given.tree=none):cK P w K mg base fK 6 Z.uM Z.ur ["_law_bag_here"] (Pp K):=by
 have Fy:=CH (P:=P) (w:=w) (base:=base) T ptree;have aP:=dS (P:=P) (w:=w) (base:=base) T ptree;have yw:=v9 (P:=P) (w:=w) (base:=base) T ptree;have nh:=wa (P:=P) (w:=w) (base:=base) T ptree;have Fz:=CI (P:=P) (w:=w) (base:=base) T ptree;refine T.my.F.ok iO (λvs H Q E h=>?_) (λcdv A outer s H vs Q E hr h=>?_)
 ·obtain ⟨b,rfl,_⟩:=h;rfl
 ·obtain ⟨b,rfl,hB,k⟩:=h
  refine ⟨_,(ar (fB (cH Fy hr T.ow (ae (pv 0) ai)) (rX rfl (b9 (aO (i:=1) iO.nd) (b9 (aO (i:=2) iO.nd) (b9 (aO (i:=3) iO.nd) (b9 (aO (i:=4) iO.nd) fL))))))
   (ar (dh (bw fH (cH aP hr T.aR (ae (pv 0) (ae ak ai))) ak (bM _)) (ar (dh (bw fH (cH aP hr T.aR (ae (pv 0) (ae ak ai))) ak (bM _)) (aA (aV (cW (ae (cH yw hr T.jU (ae (pv 0) ai)) (ae ak ai))))) b8)
   (aA (aV (cW (ae (cH nh hr T.jW (ae (pv 0) (ae (bI eQ ak (cH aP hr T.aR (ae (pv 0) (ae ak ai)))) ai))) (ae ak ai)))))) b8)
   (aA (aV (cW (ae (cH Fz hr T.ox (ae (pv 0) (ae (pv 1) (ae (pv 2) (ae (pv 3) (ae (pv 4) ai)))))) (ae (bL (tS rfl) (by rfl) T.min PyProof.Rows.boot_min (ae (pv 4) (ae ak ai))) ai))))))),?_⟩
  refine aQ (σ:=[some (.ref b),none,none,none,none]) rfl ?_;have sf:∀{mv pt lk:LR9} {M V1:Nat},0 < M->M<=2^400->V1<=2^30->GF M V1 mv->GF M V1 pt->GF M V1 lk->IM mv pt lk:=λh0 h1 h2 a b c=>⟨_,_,h0,h1,ag h2 (av (by decide) (by decide)),a,b,c⟩
  exists ⟨b,rfl,hB,λr n i o w H1 g1 n5 i4 o4 hw h5 B1 u1=>?_⟩;exists ⟨b,16,rfl,B1,by decide,by decide,λv H2 v0 v1 B2 u2=>?_⟩;have u02:=u1.trans u2;exists iK (λh0=>?_) (λh0=>?_)
  ·exists ⟨b,2,rfl,B2,by decide,by decide,λv2 H3 _ _ B3 u3=>?_⟩;have u03:=u02.trans u3;exists iK (λh1=>?_) (λh1=>?_)
   ·exists ⟨b,rfl,B3,λr4 mv pt lk H4 P4 l6 D fm fp fl B4 u4=>?_⟩;exists cu λt H5 s5 g5=>?_
    exact k t r4 4 0 13 mv pt lk H5 g5 ((P4.weak λq h=>u03.none B3 h).same s5) D (sf (by decide) cA (by decide) fm fp fl) (zV (n0:=8) (by decide) (by decide) D.n8 (by decide) fm fp (by decide)) (.inl ⟨by decide,by decide,by decide,by decide,by decide,fm,fp,ag (aG _ (show mv.length+4<=12 by have:=D.n8;lia)) (by decide)⟩) (by decide) (by decide) (B4.same s5) ((u03.trans u4).same s5)
   ·exists ⟨b,3,rfl,B3,by decide,by decide,λv3 H4 v30 v31 B4 u4=>?_⟩;obtain ⟨v3,rfl⟩:=bS v30;have u04:=u03.trans u4;walk_at "w";rw[show ((6:Int)+(v3:Int))=((6+v3:Nat):Int) by lia];refine ⟨b,6+v3,rfl,B4,by lia,by lia,λr4 mv pt lk H5 P5 lm _ _ D fm fp fl B5 u5=>?_⟩;exists cu λt H6 s6 g6=>?_
    exact k t r4 4 0 4 mv pt lk H6 g6 ((P5.weak λq h=>u04.none B4 h).same s6) D (sf (by decide) cA (by decide) fm fp fl) (zV (n0:=8) (by decide) (by decide) D.n8 (by decide) fm fp (by decide)) (.inl ⟨by decide,by decide,by decide,by decide,by decide,(λxs hx x hx'=>(fm xs hx x hx').mono (by decide)),(λxs hx x hx'=>(fp xs hx x hx').mono (by decide)),ag (aG _ (show mv.length+4<=12 by have:=D.n8;lia)) (by decide)⟩) (by decide) (by decide) (B5.same s6) ((u04.trans u5).same s6)
  ·obtain ⟨c,hc,hc20,hcM⟩:∃c:Nat,max w 6<=2^c/\c<=20/\c*((n+i+o)*n)<=800/\(9 < w->c=20/\(n+i+o)*n<=20/\n<=2):=by
    have m1:(n+i+o)*n<=13*5:=ax (by lia) n5;rcases hw with rfl | rfl | ⟨rfl,n2⟩
    ·exact ⟨4,by decide,by decide,by lia,λz=>by lia⟩
    ·exact ⟨4,by decide,by decide,by lia,λz=>by lia⟩
    ·have m2:(n+i+o)*n<=10*2:=ax (by lia) n2;exact ⟨20,by decide,by decide,by lia,λ_=>⟨rfl,by lia,n2⟩⟩
   obtain ⟨hcM,hbig⟩:=hcM;exists ⟨b,n,i,o,w,c,rfl,B2,by lia,i4,o4,by lia,by lia,hc,hc20,hcM,λr4 mv pt lk H4 P4 lm lp ll D PF B4 u4=>?_⟩;have hmin:(if (1000:Int) < (w:Int) then (1000:Int) else (w:Int))=((min w 1000:Nat):Int):=by split <;> lia
   have PG:=PF;obtain ⟨M,V1,M0,fm,fp,fl,hcs⟩:=PF.n
   obtain ⟨a',c',KF,SF⟩:∃a' c',vI mv pt a' c'/\IM mv pt lk:=by
    rcases hcs with ⟨w9,rfl,rfl⟩ | ⟨w9,M1,rfl⟩
    ·exact ⟨12,16,zV (n0:=5) (by decide) (by decide) (by lia) (by decide) fm fp (by decide),sf (by decide) (ag (show 2520<=2^12 by decide) (av (by decide) (by decide))) (by decide) fm fp fl⟩
    ·obtain ⟨rfl,e1,e2⟩:=hbig w9;have M4:M<=2^400:=ag M1 (av (by decide) (by lia));exact ⟨400,32,zV (n0:=2) M0 M4 (by lia) (by decide) fm fp (by decide),sf M0 M4 (by decide) fm fp fl⟩
   have RG:Rg mv pt (min w 1000):=by
    obtain ⟨M1,M2,M3,V1,a1,a2,a3,f1,f2,f3,hc'⟩:=PG;rcases hc' with ⟨w9,rfl,rfl,_,rfl⟩ | ⟨w9,b1,b2,_,rfl⟩
    ·exact .inr (.inl ⟨by lia,by lia,by decide,by decide,by decide,by decide,f1,f2,ag (aG _ (show mv.length+4<=9 by lia)) (by decide)⟩)
    ·obtain ⟨rfl,e1,e2⟩:=hbig w9;have q1:n*n<=2*2:=ax e2 e2;have q2:i*n<=4*2:=ax i4 e2;have w6:w=1000000:=by lia
     exact .inr (.inr ⟨by lia,by lia,M1,M2,a1,a2,ag b1 (av (by decide) (by lia)),ag b2 (av (by decide) (by lia)),f1,f2,ag (aG _ (show mv.length+4<=6 by lia)) (by decide)⟩)
   exists cu λt H5 s5 g5=>?_
   rw[hmin] at g5;exact k t r4 (min w 1000) a' c' mv pt lk H5 g5 ((P4.weak λq h=>u02.none B2 h).same s5) D SF KF RG (by lia) (by lia) (B4.same s5) ((u02.trans u4).same s5)
theorem Es:aU ["thing","at","most"] ["thing","at","most"] (aN rn):=by walk_at "d"
theorem EM (T:Txt K mg Z) (ptree:P.given.tree=none):cK P w K mg base fK 1 Z.yZ Z.yI ["thing","at","most"] Kk:=by
 refine T.jS.F.ok Es (λvs H Q E h=>?_) (λcdv A outer s H vs Q E hr h=>?_)
 ·obtain ⟨p,xs,a,m,rfl,_⟩:=h;rfl
 ·obtain ⟨p,xs,a,m,rfl,gx,hm,k⟩:=h
  refine ⟨_,(ar (dh (rV (rT (AU rfl T.isinstance PyProof.Rows.boot_list T.list (pv 0)))) (aA Kz) b8)
   (aA (dh (bw vW (bL be (by rfl) T.len a7 (ae (pv 0) ai)) (pv 2) (bM _)) (aA Kz) b8))),?_⟩
  refine aQ (σ:=[some (.ref p),some (.int a),some (.int m)]) rfl ?_;exists ⟨_,_,.lst gx,rfl,?_⟩;exists ⟨_,_,rfl,.inl (bF.of gx),?_⟩;walk_at "w";rw[decide_eq_false (show ¬m < (xs.length:Int) by lia)];exists k
theorem Gk:aU ["thing"] ["thing"] (aN uZ):=by walk_at "d"
theorem GR (T:Txt K mg Z) (ptree:P.given.tree=none):cK P w K mg base fK 1 Z.BY Z.BK ["thing"] LK:=by
 refine T.mU.F.ok Gk (λvs H Q E h=>?_) (λcdv A outer s H vs Q E hr h=>?_)
 ·obtain ⟨i,rfl,_⟩:=h;rfl
 ·obtain ⟨i,rfl,k⟩:=h;refine ⟨_,(aA (aV (Jt (AU rfl T.isinstance PyProof.Rows.boot_int T.int (pv 0)) (Js (S8 (AU rfl T.isinstance PyProof.Rows.boot_bool T.bool (pv 0))))))),?_⟩;refine aQ (σ:=[some (.int i)]) rfl ?_;exists ⟨_,_,.int i,rfl,?_⟩;exists ⟨_,_,.int i,rfl,?_⟩;exists k
theorem iI:aU ["one","other","rest"] ["one","other"] (aN kg):=by walk_at "d"
theorem jQ (T:Txt K mg Z) (ptree:P.given.tree=none):cK P w K mg base fK 1 Z.oS Z.oN ["one","other"] Uq:=by
 refine T.fM.F.ok iI (λvs H Q E h=>?_) (λcdv A outer s H vs Q E hr h=>?_)
 ·obtain ⟨a,b,rfl,_⟩:=h;rfl
 ·obtain ⟨a,b,rfl,k⟩:=h
  refine ⟨_,(ar (AM PassesOwn.never (bw Dx (pv 1) ak (bM _))
    (ar (aS (i:=2) iI.nd rfl (Or.inl rfl) (bI Qr (pv 0) (pv 1)))
   (ar (aS (i:=0) iI.nd rfl (Or.inl rfl) (pv 1))
   (aA (aS (i:=1) iI.nd rfl (Or.inl rfl) (pv 2))))))
   (aA (aV (bL wX (by rfl) T.abs PyProof.Rows.boot_abs (ae (pv 0) ai))))),?_⟩
  refine aQ (σ:=[some (.int a),some (.int b),none]) rfl ?_;exists Ei (λσ' H'=>∃(u v:Int) (r:Option V),σ'=[some (.int u),some (.int v),r]/\H'=H/\Int.gcd u v=Int.gcd a b) (λσ' _=>match σ' with | [_,some (.int v),_]=>v.natAbs | _=>0) ⟨a,b,none,rfl,rfl,rfl⟩ ?_;rintro σ' H' ⟨u,v,r,rfl,rfl,hg⟩;exists iK (λh=>?_) (λh=>?_)
  ·have hv:v≠0:=λz=>by subst z;simp at h
   exists fY (show v≠0 from hv) ?_;exists ⟨⟨v,u.fmod v,_,rfl,rfl,(Oy u v).trans hg⟩,QI u v hv⟩
  ·have hv:v=0:=by
    by_cases z:v=0
    ·exact z
    ·exfalso;apply h;simp [z]
   subst hv;walk_at "w"
   have e:(if u < 0 then -u else u)=g a b:=by
    unfold g;rw[<- hg,Int.gcd_zero_right]
    split <;> lia
   rw[e];exact k
theorem Ew:aU ["thing"] ["thing"] (aN rF):=by walk_at "d"
theorem ES (T:Txt K mg Z) (ptree:P.given.tree=none):cK P w K mg base fK 2 Z.zf Z.yN ["thing"] (LN K):=by
 have Cj:=GR (P:=P) (w:=w) (base:=base) T ptree;have gV:=jQ (P:=P) (w:=w) (base:=base) T ptree;refine T.pS.F.ok Ew (λvs H Q E h=>?_) (λcdv A outer s H vs Q E hr h=>?_)
 ·obtain ⟨x,n,rfl,_⟩:=h;rfl
 ·obtain ⟨x,n,rfl,⟨p,rfl,hp⟩,hn,k⟩:=h
  refine ⟨_,(ar (dh (PW.pt (tZ (rV (rT (Qo rfl T.isinstance PyProof.Rows.boot_tuple T.tuple (pv 0)))) (pH (bw Dx (bL be (by rfl) T.len a7 (ae (pv 0) ai)) ak (bM _))))) (aA (aV rY)) b8)
   (ar (dh (PW.pt (tZ (rV (rT (cH Cj hr T.mU (ae (aW bU (pv 0) ak) ai)))) (pH (rV (rT (cH Cj hr T.mU (ae (aW bU (pv 0) ak) ai))))))) (aA (aV rY)) b8)
   (aA (aV (Jt (mR Dy (aW bU (pv 0) ak) ak (bM _)) (Js (mR fH (cH gV hr T.fM (ae (aW bU (pv 0) ak) (ae (aW bU (pv 0) ak) ai))) ak (bM _)))))))),?_⟩
  refine aQ (σ:=[some (.ref p)]) rfl ?_;obtain ⟨hb,hg,s1,s2⟩:=hn;exists .inr ⟨p,_,_,rfl,hp,rfl,?_⟩;exists ⟨_,_,rfl,.inr hp,?_⟩;walk_at "w"
  try refine Tq ?_
  exists ⟨n.1,rfl,?_⟩;exists ⟨n.2,rfl,?_⟩;walk_at "w";rw[decide_eq_true (show (1:Int)<=n.2 by lia)];exists ⟨n.1,n.2,rfl,?_⟩;walk_at "w";have e:g n.1 n.2=1:=by unfold g;rw[hg];rfl
  rw[e,decide_eq_true rfl];exact k _ (aI.refl _)
theorem LQ:aU ["thing","many"] ["thing","many"] (aN AI):=by walk_at "d"
theorem L9 (T:Txt K mg Z) (ptree:P.given.tree=none):cK P w K mg base fK 3 Z.Ir Z.Ia ["thing","many"] (Dn K):=by
 have IE:=ES (P:=P) (w:=w) (base:=base) T ptree;refine T.xZ.F.ok LQ (λvs H Q E h=>?_) (λcdv A outer s H vs Q E hr h=>?_)
 ·obtain ⟨p,ns,rfl,_⟩:=h;rfl
 ·obtain ⟨p,ns,rfl,hp,hl,hn,k⟩:=h
  refine ⟨_,(ar (dh (PW.pt (tZ (rV (rT (AU rfl T.isinstance PyProof.Rows.boot_list T.list (pv 0)))) (pH (bw Dx (bL be (by rfl) T.len a7 (ae (pv 0) ai)) (pv 1) (bM _))))) (aA (aV rY)) b8)
   (aA (aV (bL (OT rfl) (by rfl) T.all PyProof.Rows.boot_all (ae (bX ["value"] [] [] (cB (pv 0)) (λ_=>(aO (i:=0) (show ND9 ["value"] by decide +kernel))) (λ_=>cw) (λ_=>(cH IE hr T.pS (ae (pv 0) ai)))) ai))))),?_⟩
  refine aQ (σ:=[some (.ref p),some (.int ns.length)]) rfl ?_;obtain ⟨xs,gx,qx⟩:=id hp;have lx:=qx.length;exists ⟨_,_,.lst gx,rfl,?_⟩;exists ⟨_,_,rfl,.inl (bF.of gx),?_⟩;walk_at "w";rw[show ((xs.length:Nat):Int)=(ns.length:Nat) by rw[lx],decide_eq_true rfl];exists ⟨⟨_,bF.of gx⟩,?_⟩;refine fJ (K:=K) (xs:=xs) (λi ys H'=>aI H H'/\ys=List.replicate i (.bl true)) (aT (br (by lia))) ⟨aI.refl _,rfl⟩ (λi ys H' _ ⟨s,_⟩=>bF.of (s _ _ gx)) ?_ ?_
  ·rintro i x ys H' hx hlen ⟨s,rfl⟩;obtain ⟨n,en,z⟩:=bT qx hx;exists ⟨x,n,rfl,s.num z,hn n (ao en),λH2 s2=>⟨s.trans s2,by rw[List.replicate_succ']⟩⟩
  ·rintro ys H' hy ⟨s,rfl⟩ l hl';exists ⟨l,List.replicate xs.length true,rfl,bF.of (by rw[aJ];simp),?_⟩;have e4:(List.replicate xs.length true).all id=true:=by simp
   rw[e4];exact k _ (s.trans (aI.new hl'))
theorem l8:aU ["things","wide","place","thing"] ["things","wide"] (aN nU):=by walk_at "d"
theorem A1 (T:Txt K mg Z) (ptree:P.given.tree=none):cK P w K mg base fK 4 Z.uL Z.uq ["things","wide"] (Ks K):=by
 have O1:=L9 (P:=P) (w:=w) (base:=base) T ptree;refine T.iU.F.ok l8 (λvs H Q E h=>?_) (λcdv A outer s H vs Q E hr h=>?_)
 ·obtain ⟨p,H0,rows,w,rfl,_⟩:=h;rfl
 ·obtain ⟨p,H0,rows,w,rfl,hp,hl,hw,hn,k⟩:=h
  refine ⟨_,(ar (dR PassesOwn.never rfl (KG rfl T.enumerate (ae (pv 0) ai)) (rX rfl (b9 (aO (i:=2) l8.nd) (b9 (aO (i:=3) l8.nd) fL)))
    (aA (dh (rV (rT (cH O1 hr T.xZ (ae (pv 3) (ae (pv 1) ai))))) (aA Kz) b8)))
   (aA (aV (bX ["row"] [] [] (cB (pv 0)) (λ_=>(aO (i:=0) (show ND9 ["row"] by decide +kernel))) (λ_=>cw) (λ_=>(du (iF K (by rfl)) (by rfl) T.list PyProof.Rows.boot_list (ae (pv 0) ai))))))),?_⟩
  refine aQ (σ:=[some (.ref p),some (.int w),none,none]) rfl ?_;obtain ⟨xs,gx,qx,_⟩:=id hp;exists ⟨⟨_,bF.of gx⟩,?_⟩;refine OC (K:=K) (l:=p) (xs:=xs) (λi σ' H'=>aI H H'/\∃x y,σ'=[some (.ref p),some (.int w),x,y]) ⟨aI.refl _,none,none,rfl⟩ (λi σ' H' _ ⟨s,_⟩=>bF.of (s _ _ gx)) ?_ ?_
  ·rintro i x σ' H' t hx ⟨s,x1,y1,rfl⟩ ht;obtain ⟨qs,eq,q,rfl,_,Rq⟩:=bT qx hx;have hm:=ao eq;have st:aI H' (upd H' t (.tup [.int i,.ref q])):=aI.new ht;have gt:(upd H' t (.tup [.int i,.ref q])) t=some (.tup [.int i,.ref q]):=aJ;have s2:=s.trans st;generalize upd H' t (.tup [.int i,.ref q])=H2 at st gt s2 ⊢;have lq:(qs.map nm).length=w:=by rw[aj];exact (hn qs hm).1
   exists ⟨q,_,by rw[lq],(Rq.same s2).rowK,by rw[lq];exact hw,λn hn'=>?_,λH3 s3=>?_⟩
   ·obtain ⟨y,hy,rfl⟩:=az.mp hn';exact (hn qs hm).2 y hy
   exists ⟨s2.trans s3,_,_,rfl⟩
  ·rintro σ' H' ⟨s,x1,y1,rfl⟩;exists ⟨⟨_,bF.of (s _ _ gx)⟩,?_⟩;refine dm (K:=K) (F:=cY K H0) (cY K H) id (s _ _ gx) (Paired.imp' (λ_ _ z=>z.same s) qx) hl (λa b=>a.same b) (λa b=>a.same b) ?_ ?_
   ·rintro i ns x H2 NY NN en s2 ⟨u,rfl,_,zs,gz,qz⟩ k1;exists ⟨u,zs,rfl,.inl (bF.of gz),λl1 hl1=>?_⟩;exact k1 _ _ (aI.new hl1) ⟨l1,rfl,s.none (s2.none hl1),zs,aJ,Paired.imp' (λ_ _ z=>z.same (aI.new hl1)) qz⟩
   ·rintro ys' H2 r hr s2 g pr nx;rw[mG] at pr nx;exact k r H2 (s.none hr) (s.trans s2) ⟨ys',g,pr,jD nx⟩
theorem uX:aU ["self","move","put","look"] ["self","move","put","look"] (aN eK):=by walk_at "d"
theorem me (T:Txt K mg Z) (ptree:P.given.tree=none):cK P w K mg base fK 5 Z.j5 Z.jZ ["self","move","put","look"] (Ko K Z.a_System):=by
 have tw:=EM (P:=P) (w:=w) (base:=base) T ptree;have oE:=A1 (P:=P) (w:=w) (base:=base) T ptree;refine T.ni.ok uX (λvs H Q E h=>?_) (λcdv A outer s H vs Q E hr h=>?_)
 ·obtain ⟨x,dx,p,q,r,Hb,H0,H1,H2,mv,pt,lk,rfl,_⟩:=h;rfl
 ·obtain ⟨x,dx,p,q,r,Hb,H0,H1,H2,mv,pt,lk,rfl,nx,ndx,nex,rfl,gp,gq,gr,D,om,op,ol,k⟩:=h
  refine ⟨_,(ar (ic (cH tw hr T.jS (ae (pv 1) (ae ak (ae (lM (v:=.int 8) rfl T.mg_MOST_STATES ⟨_,rfl⟩) ai)))))
   (ar (xR (pv 0) (cH oE hr T.iU (ae (pv 1) (ae (bL be (by rfl) T.len a7 (ae (pv 1) ai)) ai))) rfl)
   (ar (xR (pv 0) (bL be (by rfl) T.len a7 (ae (eP (pv 0) rfl) ai)) rfl)
   (ar (ic (cH tw hr T.jS (ae (pv 2) (ae ak (ae (lM (v:=.int 4) rfl T.mg_MOST_PUTS ⟨_,rfl⟩) ai)))))
   (ar (xR (pv 0) (cH oE hr T.iU (ae (pv 2) (ae (eP (pv 0) rfl) ai))) rfl)
   (ar (xR (pv 0) (bL be (by rfl) T.len a7 (ae (eP (pv 0) rfl) ai)) rfl)
   (ar (ic (cH tw hr T.jS (ae (pv 3) (ae ak (ae (lM (v:=.int 4) rfl T.mg_MOST_LOOKS ⟨_,rfl⟩) ai)))))
   (ar (xR (pv 0) (cH oE hr T.iU (ae (pv 3) (ae (eP (pv 0) rfl) ai))) rfl)
   (aA (xR (pv 0) (bL be (by rfl) T.len a7 (ae (eP (pv 0) rfl) ai)) rfl)))))))))),?_⟩
  refine aQ (σ:=[some (.ref x),some (.ref p),some (.ref q),some (.ref r)]) rfl ?_
  have s0:aI Hb (upd (upd Hb dx (.own x)) x (.ins Z.a_System dx [])):=λb o e=>by
   rw[bD (fU e nx),bD (fU e ndx)];exact e
  have hx:(upd (upd Hb dx (.own x)) x (.ins Z.a_System dx [])) x=some (.ins Z.a_System dx []):=aJ;have back:∀{b},(upd (upd Hb dx (.own x)) x (.ins Z.a_System dx [])) b=none->Hb b=none:=λh=>s0.none h
  generalize upd (upd Hb dx (.own x)) x (.ins Z.a_System dx [])=Ha at s0 hx back ⊢;obtain ⟨xs,gx,qx,_⟩:=id gp;obtain ⟨ys,gy,qy,_⟩:=id gq;obtain ⟨zs,gz,qz,_⟩:=id gr;have lx:=qx.length;have ly:=qy.length;have lz:=qz.length;have d1:=D.n8;have d2:=D.i4;have d3:=D.o4;exists ⟨p,xs,0,8,rfl,s0 _ _ gx,by lia,?_⟩;exists ⟨_,_,rfl,.inl (bF.of (s0 _ _ gx)),?_⟩;exists ⟨p,H0,mv,mv.length,by rw[lx],gp.same s0,by lia,by lia,λws hw=>⟨D.mw ws hw,om ws hw⟩,λa H3 na s3 Ga=>?_⟩;have hx3:=s3 _ _ hx;exists ⟨x,Z.a_System,dx,_,rfl,hx3,T.cl_System,T.na_move,(by show 0 < 1000;decide),?_⟩;have e3:FD x H3 (upd H3 x (.ins Z.a_System dx (cF "move" (.ref a) []))):=FD.upd;have i3:uS H3 x:=⟨_,_,_,hx3⟩;have hx4:(upd H3 x (.ins Z.a_System dx (cF "move" (.ref a) []))) x=some (.ins Z.a_System dx (cF "move" (.ref a) [])):=aJ;have Ga4:=Ga.exc e3 i3;have k4:aI Hb (upd H3 x (.ins Z.a_System dx (cF "move" (.ref a) []))):=(s0.trans s3).after nx;generalize upd H3 x (.ins Z.a_System dx (cF "move" (.ref a) []))=H4 at e3 hx4 Ga4 k4 ⊢;exists ⟨x,Z.a_System,dx,_,_,rfl,hx4,T.cl_System,T.na_move,(by rw[bE,if_pos rfl]),?_⟩;obtain ⟨as,ga,qa,_⟩:=id Ga4;have la:=qa.length;exists ⟨_,_,rfl,.inl (bF.of ga),?_⟩;exists ⟨x,Z.a_System,dx,_,rfl,hx4,T.cl_System,T.na_states,bp eU (by show 1 < 1000;decide),?_⟩;rw[show ((as.length:Nat):Int)=((mv.length:Nat):Int) by rw[la]];have e4:FD x H4 (upd H4 x (.ins Z.a_System dx (cF "states" (.int mv.length) (cF "move" (.ref a) [])))):=FD.upd;have i4:uS H4 x:=⟨_,_,_,hx4⟩;have hx5:(upd H4 x (.ins Z.a_System dx (cF "states" (.int mv.length) (cF "move" (.ref a) [])))) x=some (.ins Z.a_System dx (cF "states" (.int mv.length) (cF "move" (.ref a) []))):=aJ;have Ga5:=Ga4.exc e4 i4;have k5:aI Hb (upd H4 x (.ins Z.a_System dx (cF "states" (.int mv.length) (cF "move" (.ref a) [])))):=k4.after nx;generalize upd H4 x (.ins Z.a_System dx (cF "states" (.int mv.length) (cF "move" (.ref a) [])))=H5 at e4 hx5 Ga5 k5 ⊢;clear e3 e4 i3 i4 hx4 Ga4 ga qa;exists ⟨q,ys,1,4,rfl,k5 _ _ gy,by lia,?_⟩;exists ⟨x,Z.a_System,dx,_,_,rfl,hx5,T.cl_System,T.na_states,(by rw[bE,if_pos rfl]),?_⟩;exists ⟨q,H1,pt,mv.length,rfl,gq.same k5,by lia,by lia,λws hw=>⟨D.pw ws hw,op ws hw⟩,λb H6 nb s6 Gb=>?_⟩;have hx6:=s6 _ _ hx5;have i6:uS H6 x:=⟨_,_,_,hx6⟩;exists ⟨x,Z.a_System,dx,_,rfl,hx6,T.cl_System,T.na_put,bp eU (bp (eo eU) (by show 2 < 1000;decide)),?_⟩;have e6:FD x H6 (upd H6 x (.ins Z.a_System dx (cF "put" (.ref b) (cF "states" (.int mv.length) (cF "move" (.ref a) []))))):=FD.upd;have hx7:(upd H6 x (.ins Z.a_System dx (cF "put" (.ref b) (cF "states" (.int mv.length) (cF "move" (.ref a) []))))) x=some (.ins Z.a_System dx (cF "put" (.ref b) (cF "states" (.int mv.length) (cF "move" (.ref a) [])))):=aJ;have Ga7:=(Ga5.same s6).exc e6 i6;have Gb7:=(Gb.weak k5).exc e6 i6;have k7:aI Hb (upd H6 x (.ins Z.a_System dx (cF "put" (.ref b) (cF "states" (.int mv.length) (cF "move" (.ref a) []))))):=(k5.trans s6).after nx;generalize upd H6 x (.ins Z.a_System dx (cF "put" (.ref b) (cF "states" (.int mv.length) (cF "move" (.ref a) []))))=H7 at e6 hx7 Ga7 Gb7 k7 ⊢;obtain ⟨bs,gb,qb,_⟩:=id Gb7;have lb:=qb.length;exists ⟨x,Z.a_System,dx,_,_,rfl,hx7,T.cl_System,T.na_put,(by rw[bE,if_pos rfl]),?_⟩;exists ⟨_,_,rfl,.inl (bF.of gb),?_⟩;exists ⟨x,Z.a_System,dx,_,rfl,hx7,T.cl_System,T.na_ins,bp eU (bp (eo (ag eU (eo eU))) (by show 3 < 1000;decide)),?_⟩;rw[show ((bs.length:Nat):Int)=((pt.length:Nat):Int) by rw[lb]];have i7:uS H7 x:=⟨_,_,_,hx7⟩;have e7:FD x H7 (upd H7 x (.ins Z.a_System dx (cF "ins" (.int pt.length) (cF "put" (.ref b) (cF "states" (.int mv.length) (cF "move" (.ref a) [])))))):=FD.upd;have hx8:(upd H7 x (.ins Z.a_System dx (cF "ins" (.int pt.length) (cF "put" (.ref b) (cF "states" (.int mv.length) (cF "move" (.ref a) [])))))) x=some (.ins Z.a_System dx (cF "ins" (.int pt.length) (cF "put" (.ref b) (cF "states" (.int mv.length) (cF "move" (.ref a) []))))):=aJ;have Ga8:=Ga7.exc e7 i7;have Gb8:=Gb7.exc e7 i7;have k8:aI Hb (upd H7 x (.ins Z.a_System dx (cF "ins" (.int pt.length) (cF "put" (.ref b) (cF "states" (.int mv.length) (cF "move" (.ref a) [])))))):=k7.after nx;generalize upd H7 x (.ins Z.a_System dx (cF "ins" (.int pt.length) (cF "put" (.ref b) (cF "states" (.int mv.length) (cF "move" (.ref a) [])))))=H8 at e7 hx8 Ga8 Gb8 k8 ⊢;clear e6 e7 i6 i7 hx7 Ga7 Gb7 gb qb;exists ⟨r,zs,2,4,rfl,k8 _ _ gz,by lia,?_⟩;exists ⟨x,Z.a_System,dx,_,_,rfl,hx8,T.cl_System,T.na_states,(by rw[bE,if_neg (by decide +kernel),bE,if_neg (by decide +kernel),bE,if_pos rfl]),?_⟩;exists ⟨r,H2,lk,mv.length,rfl,gr.same k8,by lia,by lia,λws hw=>⟨D.lw ws hw,ol ws hw⟩,λc H9 nc s9 Gc=>?_⟩;have hx9:=s9 _ _ hx8;have i9:uS H9 x:=⟨_,_,_,hx9⟩;exists ⟨x,Z.a_System,dx,_,rfl,hx9,T.cl_System,T.na_look,bp eU (bp (eo (ag eU (eo (ag eU (eo eU))))) (by show 4 < 1000;decide)),?_⟩;have e9:FD x H9 (upd H9 x (.ins Z.a_System dx (cF "look" (.ref c) (cF "ins" (.int pt.length) (cF "put" (.ref b) (cF "states" (.int mv.length) (cF "move" (.ref a) []))))))):=FD.upd;have hxA:(upd H9 x (.ins Z.a_System dx (cF "look" (.ref c) (cF "ins" (.int pt.length) (cF "put" (.ref b) (cF "states" (.int mv.length) (cF "move" (.ref a) []))))))) x=some (.ins Z.a_System dx (cF "look" (.ref c) (cF "ins" (.int pt.length) (cF "put" (.ref b) (cF "states" (.int mv.length) (cF "move" (.ref a) [])))))):=aJ;have GaA:=(Ga8.same s9).exc e9 i9;have GbA:=(Gb8.same s9).exc e9 i9;have GcA:=(Gc.weak k8).exc e9 i9;have kA:aI Hb (upd H9 x (.ins Z.a_System dx (cF "look" (.ref c) (cF "ins" (.int pt.length) (cF "put" (.ref b) (cF "states" (.int mv.length) (cF "move" (.ref a) []))))))):=(k8.trans s9).after nx;generalize upd H9 x (.ins Z.a_System dx (cF "look" (.ref c) (cF "ins" (.int pt.length) (cF "put" (.ref b) (cF "states" (.int mv.length) (cF "move" (.ref a) []))))))=HA at e9 hxA GaA GbA GcA kA ⊢;obtain ⟨cs,gc,qc,_⟩:=id GcA;have lc:=qc.length;exists ⟨x,Z.a_System,dx,_,_,rfl,hxA,T.cl_System,T.na_look,(by rw[bE,if_pos rfl]),?_⟩;exists ⟨_,_,rfl,.inl (bF.of gc),?_⟩;exists ⟨x,Z.a_System,dx,_,rfl,hxA,T.cl_System,T.na_outs,bp eU (bp (eo (ag eU (eo (ag eU (eo (ag eU (eo eU))))))) (by show 5 < 1000;decide)),?_⟩;rw[show ((cs.length:Nat):Int)=((lk.length:Nat):Int) by rw[lc]];have iA:uS HA x:=⟨_,_,_,hxA⟩;exact k _ (kA.after nx) ⟨dx,a,b,c,aJ,back na,k5.none nb,k8.none nc,(GaA.exc FD.upd iA).weak s0,GbA.exc FD.upd iA,GcA.exc FD.upd iA⟩
theorem AA:aU ["_law_grid"] ["_law_grid"] (aN nY):=by walk_at "d"
theorem A6 (T:Txt K mg Z) (ptree:P.given.tree=none):cK P w K mg base fK 1 Z.uP Z.uw ["_law_grid"] (Au K):=by
 refine T.iW.F.ok AA (λvs H Q E h=>?_) (λcdv A outer s H vs Q E hr h=>?_)
 ·obtain ⟨p,H0,rows,rfl,_⟩:=h;rfl
 ·obtain ⟨p,H0,rows,rfl,hp,hl,hm,k⟩:=h;refine ⟨_,(aA (aV (bX ["_law_row_here"] [] [] (cB (pv 0)) (λ_=>(aO (i:=0) (show ND9 ["_law_row_here"] by decide +kernel))) (λ_=>cw) (λ_=>(du (iF K (by rfl)) (by rfl) T.list PyProof.Rows.boot_list (ae (pv 0) ai)))))),?_⟩;refine aQ (σ:=[some (.ref p)]) rfl ?_;obtain ⟨xs,gx,qx,_⟩:=id hp;exists ⟨⟨_,bF.of gx⟩,?_⟩;refine dm (K:=K) (F:=cY K H0) (cY K H) id gx qx hl (λa b=>a.same b) (λa b=>a.same b) ?_ ?_
  ·rintro i ns x H' NY NN en s ⟨u,rfl,_,zs,gz,qz⟩ k1;exists ⟨u,zs,rfl,.inl (bF.of gz),λl1 hl1=>?_⟩;exact k1 _ _ (aI.new hl1) ⟨l1,rfl,s.none hl1,zs,aJ,Paired.imp' (λ_ _ z=>z.same (aI.new hl1)) qz⟩
  ·rintro ys' H' r hr s g pr nx;rw[mG] at pr nx;exact k r H' hr s ⟨ys',g,pr,jD nx⟩
theorem EC:aU ["_law_parts_here"] ["_law_parts_here"] (aN rR):=by walk_at "d"
theorem EY (T:Txt K mg Z) (ptree:P.given.tree=none):cK P w K mg base fK 7 Z.zA Z.yW ["_law_parts_here"] (Am K Z.a_System):=by
 have j9:=me (P:=P) (w:=w) (base:=base) T ptree;have oF:=A6 (P:=P) (w:=w) (base:=base) T ptree;refine T.pZ.F.ok EC (λvs H Q E h=>?_) (λcdv A outer s H vs Q E hr h=>?_)
 ·obtain ⟨r,H0,mv,pt,lk,rfl,_⟩:=h;rfl
 ·obtain ⟨r,H0,mv,pt,lk,rfl,PQ,D,F,k⟩:=h;refine ⟨_,(aA (aV (KI T.mk_System j9 (hr.mono (by decide)) rfl T.mg_System T.j3 .nil Dv (ae (cH oF hr T.iW (ae (aW bU (pv 0) ak) ai)) (ae (cH oF hr T.iW (ae (aW bU (pv 0) ak) ai)) (ae (cH oF hr T.iW (ae (aW bU (pv 0) ak) ai)) ai)))))),?_⟩;refine aQ (σ:=[some (.ref r)]) rfl ?_;obtain ⟨m,p,l,g,n1,n2,n3,Gm,Gp,Gl⟩:=id PQ;have d1:=D.n8;have d2:=D.i4;have d3:=D.o4;exists ⟨m,H0,mv,rfl,Gm,by lia,λxs hx=>by rw[D.mw xs hx];lia,λa H1 na s1 Ga=>?_⟩;have g1:=s1 _ _ g;exists ⟨p,H0,pt,rfl,Gp.same s1,by lia,λxs hx=>by rw[D.pw xs hx];lia,λb H2 nb s2 Gb=>?_⟩;have s12:=s1.trans s2;have g2:=s12 _ _ g;exists ⟨l,H0,lk,rfl,Gl.same s12,by lia,λxs hx=>by rw[D.lw xs hx];lia,λc H3 nc s3 Gc=>?_⟩;have s13:=s12.trans s3;walk_at "w";intro x dx nx ndx nex;exact ⟨x,dx,a,b,c,H3,H,H1,H2,mv,pt,lk,rfl,nx,ndx,nex,rfl,(Ga.same s2).same s3,Gb.same s3,Gc,D,F.ok.1,F.ok.2.1,F.ok.2.2,λH' s' S'=>⟨rfl,k x H' (s13.none nx) (s13.trans s') (S'.weak s13)⟩⟩
theorem ir:aU ["_law_bag_here","_law_many","_law_begin","_law_found","_law_wide","_law_k"] ["_law_bag_here","_law_many","_law_begin"] (aN ma):=by walk_at "d"
theorem zH (T:Txt K mg Z) (ptree:P.given.tree=none):cK P w K mg base fK 2 Z.tq Z.td ["_law_bag_here","_law_many","_law_begin"] (Kj K):=by
 have aP:=dS (P:=P) (w:=w) (base:=base) T ptree;have iZ:=mT (P:=P) (w:=w) (base:=base) T ptree;refine T.kY.F.ok ir (λvs H Q E h=>?_) (λcdv A outer s H vs Q E hr h=>?_)
 ·obtain ⟨b,m,rfl,_⟩:=h;rfl
 ·obtain ⟨b,m,rfl,hB,hm,k⟩:=h
  refine ⟨_,(ar (aS (i:=3) ir.nd rfl (Or.inl rfl) (dc ai))
   (ar (aS (i:=4) ir.nd rfl (Or.inl rfl) (aW bA (dc (ae ak (ae ak (ae ak (ae ak ai))))) (cH aP hr T.aR (ae (pv 0) (ae ak ai)))))
   (ar (dR PassesOwn.never rfl (cE rfl T.range (ae (pv 1) ai)) (aO (i:=5) ir.nd)
    (aA (dh (bw fH (cH aP hr T.aR (ae (pv 0) (ae ak ai))) ak (bM _)) (aA (ic (qH cx cD cC gQ (pv 3) (ae (cW (ae ak (ae ak ai))) ai)))) (aA (ic (qH cx cD cC gQ (pv 3) (ae (cH iZ hr T.iV (ae (bI eQ (pv 2) (cH aP hr T.aR (ae (pv 0) (ae (pv 4) ai)))) (ae (bI eQ ak (cH aP hr T.aR (ae (pv 0) (ae (bI (iQ rfl ir rfl rfl rfl ptree (sY hr)) (pv 4) ak) ai)))) ai))) ai)))))))
   (aA (aV (pv 3)))))),?_⟩
  refine aQ (σ:=[some (.ref b),some (.int m),some (.int 1),none,none,none]) rfl ?_;exists cS λf H1 s1 n1 g1=>?_
  exists cS λl0 H2 s2 n2 g2=>?_
  have B2:=(hB.same s1).same s2;exists ⟨b,4,rfl,B2,by decide,by decide,λv H3 v0 v1 B3 u3=>?_⟩;have fb:f≠b:=λz=>hB.at (by rw[<- z];exact n1)
  have g3:=u3.other (λz=>(hB.same s1).at (by rw[<- z];exact n2)) g2;have gf:=u3.other fb (s2 _ _ g1);obtain ⟨x,ex,mx,_⟩:=j4 (xs:=[V.int 9,V.int 9,V.int 9,V.int 1000]) v0 (by simpa using v1)
  obtain ⟨w,rfl,hw⟩:∃w:Nat,x=.int w/\(w=9\/w=1000):=by
   simp only[aL,a9,or_false] at mx;rcases mx with rfl | rfl | rfl | rfl
   ·exact ⟨9,rfl,.inl rfl⟩
   ·exact ⟨9,rfl,.inl rfl⟩
   ·exact ⟨9,rfl,.inl rfl⟩
   ·exact ⟨1000,rfl,.inr rfl⟩
  obtain ⟨q0,I0,xs0,gq0⟩:=hB.inner;have fq:f≠q0:=λz=>by rw[<- z,n1] at gq0;cases gq0
  have u03:cI b H H3:=((s1.trans s2).upto (p:=b)).trans u3;have I3:Inner H3 b q0:=u03.2 _ I0;exists cn (bF.of g3) ex ?_;exists ⟨by lia,by lia,?_⟩;refine d9 (n:=m) (λi σ' H'=>∃(y:Option V) (us:List V) (ws:List Rat),σ'=[some (.ref b),some (.int m),some (.int 1),some (.ref f),some (.int w),y]/\H' f=some (.lst us)/\Paired (b6 K H') ws us/\ws.length=i/\(∀z∈ws,0 < z/\Dr 1000 z)/\gh H' b/\Inner H' b q0/\cI b H H') ⟨none,[],[],rfl,gf,.nil,rfl,(λ_ z=>nomatch z),B3,I3,u03⟩ ?_ ?_
  ·rintro i σ' H' hi ⟨y,us,ws,rfl,gu,pr,lw,hd,B',I',u'⟩;have lu:=pr.length
   have fin:∀(t:V) (z:Rat) (H5:Hp),gh H5 b->cI b H' H5->b6 K H5 z t->0 < z/\Dr 1000 z->H5 f=some (.lst us)/\us.length < sizeLine/\∃(y:Option V) (us':List V) (ws':List Rat),[some (V.ref b),some (.int m),some (.int 1),some (.ref f),some (.int w),some (.int i)]=[some (.ref b),some (.int m),some (.int 1),some (.ref f),some (.int w),y]/\(upd H5 f (.lst (us++[t]))) f=some (.lst us')/\Paired (b6 K (upd H5 f (.lst (us++[t])))) ws' us'/\ws'.length=i+1/\(∀z∈ws',0 < z/\Dr 1000 z)/\gh (upd H5 f (.lst (us++[t]))) b/\Inner (upd H5 f (.lst (us++[t]))) b q0/\cI b H (upd H5 f (.lst (us++[t]))):=λt z H5 B5 u5 nz dz=>by
    have g5:=u5.other fb gu;have I5:=u5.2 _ I';refine ⟨g5,br (by lia),_,_,ws++[z],rfl,aJ,bV (Paired.imp' (λ_ _ y=>(y.upto u5 B').updL g5) pr) (.cons (nz.updL g5) .nil),by simp [lw],zY hd dz,B5.upd I5 fb fq,I5.upd fb,(u'.trans u5).after n1⟩
   exists ⟨b,2,rfl,B',by decide,by decide,λc Ha c0 c1 Ba ua=>?_⟩;exists iK (λh0=>?_) (λh0=>?_)
   ·exists ⟨.inl ⟨rfl,_,bF.of (ua.other fb gu)⟩,?_⟩;exists cu λt Hb sb gt=>?_
    obtain ⟨e1,e2,e3⟩:=fin (.ref t) 1 Hb (Ba.same sb) (ua.same sb) (b6.mk gt rfl) ⟨by decide,by decide,by decide⟩;exists gL e1 e2 ?_;exact e3
   ·exists ⟨.inl ⟨rfl,_,bF.of (ua.other fb gu)⟩,?_⟩;exists ⟨b,_,rfl,Ba,by lia,by lia,λt Hb t0 t1 Bb ub=>?_⟩;exists fY (show nv _ _ from ⟨by decide,by show (2:Nat) < 2^449950;exact bx (show 2 < 2^2 by decide) (av (by decide) (by decide))⟩) ?_;rw[ck _ (by decide)];exists ⟨b,_,rfl,Bb,by lia,by lia,λd Hc d0 d1 Bc uc=>?_⟩;exists ⟨_,_,rfl,by lia,(IZ (by lia)).mono (by decide),λr Hd sd gd=>?_⟩;obtain ⟨z,ez,dz,ze⟩:=JF (t:=1+t) (b:=1+d) (W:=1000) (by lia) (by lia) (by lia);obtain ⟨e1,e2,e3⟩:=fin (.ref r) z Hd (Bc.same sd) (((ua.trans ub).trans uc).same sd) (b6.mk gd ez) ⟨S6 ze (by lia) (by lia),dz⟩;exists gL e1 e2 ?_;exact e3
  ·rintro σ' H' ⟨y,us,ws,rfl,gu,pr,lw,hd,B',I',u'⟩;exists k f ws H' n1 ⟨us,gu,pr⟩ lw hd B' u'
theorem jl:aU ["_law_bag_here","_law_parts_here","_law_bottoms","_law_row_here"] ["_law_bag_here","_law_parts_here"] (aN pA):=by walk_at "d"
theorem CG (T:Txt K mg Z) (ptree:P.given.tree=none):cK P w K mg base fK 2 Z.xl Z.wN ["_law_bag_here","_law_parts_here"] (C6 K):=by
 have aP:=dS (P:=P) (w:=w) (base:=base) T ptree;refine T.ou.F.ok jl (λvs H Q E h=>?_) (λcdv A outer s H vs Q E hr h=>?_)
 ·obtain ⟨b,r,H0,mv,pt,lk,rfl,_⟩:=h;rfl
 ·obtain ⟨b,r,H0,mv,pt,lk,rfl,hB,nb,PQ,D,sz,k⟩:=h
  refine ⟨_,(ar (aS (i:=2) jl.nd rfl (Or.inl rfl) (dc (ae ak ai)))
   (ar (dR PassesOwn.never rfl (cB (bI jP (aW bU (pv 1) ak) (aW bU (pv 1) ak))) (aO (i:=3) jl.nd)
    (aA (aS (i:=2) jl.nd rfl (Or.inl rfl) (bI jP (pv 2) (bX ["_law_one"] [] [] (cB (pv 3)) (λ_=>(aO (i:=0) (show ND9 ["_law_one"] by decide +kernel))) (λ_=>cw) (λ_=>(bI eQ (aW (p9 K (by rfl)) (pv 0) ak) (bI dg (bI (iQ rfl jl rfl rfl rfl ptree (sY hr)) (bL wX (by rfl) T.abs PyProof.Rows.boot_abs (ae (aW (p9 K (by rfl)) (pv 0) ak) ai)) ak) ak))))))))
   (ar (dh (bw vW (bL (My rfl) (by rfl) T.max PyProof.Rows.boot_max (ae (pv 2) ai)) ak (bM _)) (aA (aV (cH aP hr T.aR (ae (pv 0) (ae ak ai))))) b8)
   (ar (dh (bw vW (bL be (by rfl) T.len a7 (ae (aW bU (pv 1) ak) ai)) ak (bM _)) (aA (aV (aW bA (dc (ae (cH aP hr T.aR (ae (pv 0) (ae ak ai))) (ae (bL be (by rfl) T.len a7 (ae (aW bU (pv 1) ak) ai)) ai))) (cH aP hr T.aR (ae (pv 0) (ae ak ai)))))) b8)
   (ar (dh (PW.pt (jN (bw ue (bL be (by rfl) T.len a7 (ae (aW bU (pv 1) ak) ai)) ak (bM _)) (ky (bw fH (cH aP hr T.aR (ae (pv 0) (ae ak ai))) ak (bM _))))) (aA (aV (cH aP hr T.aR (ae (pv 0) (ae ak ai))))) b8)
   (aA (aV (cH aP hr T.aR (ae (pv 0) (ae (bI eQ ak (bL be (by rfl) T.len a7 (ae (aW bU (pv 1) ak) ai))) ai)))))))))),?_⟩
  refine aQ (σ:=[some (.ref b),some (.ref r),none,none]) rfl ?_;have d8:=D.n8;have i4:=D.i4;obtain ⟨m,p,l,g,n1,n2,n3,Gm,Gp,Gl⟩:=id PQ;obtain ⟨um,gm,qm,_⟩:=id Gm;obtain ⟨up,gp,qp,_⟩:=id Gp;have lum:=qm.length;have lup:=qp.length;exists cS λbl0 H1 s1 nbl g1=>?_
  have g':=s1 _ _ g;exists kW (s1 _ _ gm) (s1 _ _ gp) (aT (br (by lia))) λcc H2 s2 nc gc=>?_
  have s02:=s1.trans s2;have qc:Paired (cY K H0 H2) (mv++pt) (um++up):=Paired.imp' (λ_ _ z=>cY.same z s02) (bV qm qp)
  have wc:∀xs∈mv++pt,xs.length=mv.length:=λxs hx=>by
   rcases aH.mp hx with hx | hx
   ·exact D.mw xs hx
   ·exact D.pw xs hx
  have lc:(mv++pt).length=(um++up).length:=qc.length;rw[aw,aw] at lc;exists ⟨⟨_,bF.of gc⟩,?_⟩;refine iX (K:=K) (a:=cc) (xs:=um++up) (λi σ' H'=>aI H2 H'/\∃bl ns y,σ'=[some (.ref b),some (.ref r),some (.ref bl),y]/\H' bl=some (.lst (ns.map V.int))/\1<=ns.length/\ns.length<=1+i*8/\∀j xs,j < i->(mv++pt)[j]?=some xs->∀x∈xs,T5 x∈ns) ⟨aI.refl _,bl0,[1],_,rfl,s2 _ _ g1,by decide,by decide,λj xs h=>absurd h (di _)⟩ (λi σ' H' _ ⟨e,_⟩=>bF.of (e _ _ gc)) ?_ ?_
  ·rintro i v σ' H' hv ⟨e,bl,ns,y,rfl,gb,b1,b2,hn⟩;obtain ⟨xs,exs,u,rfl,_,zs,gz,qz⟩:=bT qc hv;have mx:=ao exs;have wx:=wc xs mx;have hi:i < (um++up).length:=(aK.mp hv).1;rw[aw] at hi;exists ⟨⟨_,bF.of (e _ _ gz)⟩,?_⟩;refine dm (K:=K) (F:=b6 K) (λ_ c x=>x=V.int (T5 c)) id (e _ _ gz) (Paired.imp' (λ_ _ z=>z.same e) qz) (by lia) (λa b=>a.same b) (λa _=>a) ?_ ?_
   ·rintro j c x Ha NY NN ec sa ⟨pp,rfl,hp⟩ k1;have mc:=ao ec;have szc:=sz xs mx c mc;walk_at "w"
    have e1:(if (nm c).1 < 0 then -(nm c).1 else (nm c).1)=(c.num.natAbs:Int):=by
     show (if c.num < 0 then -c.num else c.num)=_
     split <;> lia
    have e2:(c.num.natAbs:Int).fdiv 1000=(c.num.natAbs:Int) / 1000:=ck _ (by decide);rw[e1];refine fY (show nv _ _ from ⟨by decide,bx (show (1000:Int).natAbs < 2^20 by decide) (av (by decide) (by decide))⟩) ?_;rw[e2];exists k1 _ _ (aI.refl _) rfl
   rintro ys Hb cl hcl sb gcl prl _
   have ey:ys=(xs.map T5).map V.int:=by
    rw[mG] at prl;rw[nH];exact Dw prl
   have ly:=prl.length;rw[aj] at ly;have gbb:=sb _ _ gb;rw[ey] at gcl;exists kW gbb gcl (aT (br (by rw[aj,aj,aj];lia))) λc2 Hc sc nc2 gc2=>?_
   rw[<- b7] at gc2;refine ⟨(e.trans sb).trans sc,c2,ns++xs.map T5,_,rfl,gc2,by rw[aw];lia,by rw[aw,aj];lia,λj ys' hj ej x hx=>?_⟩;rcases cN j i with z | z
   ·exact iJ _ (hn j ys' z ej x hx)
   ·have:j=i:=by lia
    subst this;rw[exs] at ej;cases ej;exact bO _ (az.mpr ⟨x,hx,rfl⟩)
  ·rintro σ' H' ⟨e,bl,ns,y,rfl,gb,b1,b2,hn⟩;have e0:=s02.trans e;have B':=hB.same e0;have PQ':=PQ.same e0;obtain ⟨m',p',l',g2,_,_,_,Gm',_,_⟩:=id PQ'
   have em:m'=m:=by
    have:=e0 _ _ g;rw[this] at g2;cases g2;rfl
   subst em;obtain ⟨um',gm',qm',_⟩:=id Gm';have lum':=qm'.length;have u0:cI b H H':=e0.upto;exists ⟨bl,ns,rfl,bF.of gb,by lia,λM hM hmax=>?_⟩;exists iK (λh=>?_) (λh=>?_)
   ·exists ⟨b,4,rfl,B',by decide,by decide,λv H3 v0 v1 B3 u3=>?_⟩;obtain ⟨v,rfl⟩:=bS v0;exact k v H3 ⟨by lia,.inl (by lia)⟩ B3 (u0.trans u3)
   ·have M9:M<=9:=by rw[decide_eq_true_eq] at h;lia
    have sm:∀xs∈mv++pt,∀x∈xs,x.den<=9/\x.num.natAbs < 1000:=λxs hx x hx'=>by
     obtain ⟨j,hj,rfl⟩:=bN hx;have:=hn j _ (by rw[aw,<- lum,<- lup];rw[aw] at hj;exact hj) (af hj) x hx';exact QM (Int.le_trans (hmax _ this) M9)
    exists ⟨_,_,rfl,.inl (bF.of gm'),?_⟩;rw[<- lum'];exists iK (λh1=>?_) (λh1=>?_)
    ·have n5:5 < mv.length:=by have:=of_decide_eq_true h1;lia
     exists ⟨b,4,rfl,B',by decide,by decide,λv H3 v0 v1 B3 u3=>?_⟩;obtain ⟨v,rfl⟩:=bS v0;obtain ⟨m3,p3,l3,g3,_,_,_,Gm3,_,_⟩:=PQ'.upto u3 B' nb;obtain ⟨um3,gm3,qm3,_⟩:=id Gm3;have lum3:=qm3.length;exists ⟨_,_,rfl,.inl (bF.of gm3),?_⟩;rw[<- lum3];exists cS λl4 H4 s4 n4 g4=>?_
     exists ⟨b,2,rfl,B3.same s4,by decide,by decide,λv2 H5 v20 v21 B5 u5=>?_⟩;have g5:=u5.other (λz=>B3.at (by rw[<- z];exact n4)) g4;obtain ⟨x,ex,mx,_⟩:=j4 (xs:=[V.int (v:Int),V.int (mv.length:Int)]) v20 (by simpa using v21);exists cn (bF.of g5) ex ?_;have u05:=(u0.trans (u3.same s4)).trans u5;simp only[aL,a9,or_false] at mx;rcases mx with rfl | rfl
     ·exact k v H5 ⟨by lia,.inl (by lia)⟩ B5 u05
     ·exact k mv.length H5 ⟨by lia,.inr ⟨sm,λ_=>au _,λ_ _=>Ee _⟩⟩ B5 u05
    ·have n5:mv.length<=5:=by rw[decide_eq_true_eq] at h1;lia
     exists ⟨_,_,rfl,.inl (bF.of gm'),?_⟩;rw[<- lum'];have last:∀(Hx:Hp),gh Hx b->cI b H Hx->∀(v:Nat),v < 2+mv.length->Q (.int v) Hx:=λHx Bx ux v hv=>k v Hx ⟨by lia,.inr ⟨sm,λz=>by lia,λ_ _=>by lia⟩⟩ Bx ux
     exists iK (λh2=>?_) (λh2=>?_)
     ·have n3':mv.length < 3:=by have:=of_decide_eq_true h2;lia
      exists ⟨b,8,rfl,B',by decide,by decide,λv H3 v0 v1 B3 u3=>?_⟩;exists iK (λh3=>?_) (λh3=>?_)
      ·exists ⟨b,13,rfl,B3,by decide,by decide,λv4 H4 v40 v41 B4 u4=>?_⟩;obtain ⟨v4,rfl⟩:=bS v40;exact k v4 H4 ⟨by lia,.inr ⟨sm,λz=>by lia,λz _=>by lia⟩⟩ B4 ((u0.trans u3).trans u4)
      ·obtain ⟨m3,p3,l3,g3,_,_,_,Gm3,_,_⟩:=PQ'.upto u3 B' nb;obtain ⟨um3,gm3,qm3,_⟩:=id Gm3;have lum3:=qm3.length;exists ⟨_,_,rfl,.inl (bF.of gm3),?_⟩;rw[<- lum3];walk_at "w";rw[show ((2:Int)+(mv.length:Int))=((2+mv.length:Nat):Int) by lia];refine ⟨b,2+mv.length,rfl,B3,by lia,by lia,λv4 H4 v40 v41 B4 u4=>?_⟩;obtain ⟨v4,rfl⟩:=bS v40;exact last H4 B4 ((u0.trans u3).trans u4) v4 (by lia)
     ·exists ⟨_,_,rfl,.inl (bF.of gm'),?_⟩;rw[<- lum'];walk_at "w";rw[show ((2:Int)+(mv.length:Int))=((2+mv.length:Nat):Int) by lia];refine ⟨b,2+mv.length,rfl,B',by lia,by lia,λv4 H4 v40 v41 B4 u4=>?_⟩;obtain ⟨v4,rfl⟩:=bS v40;exact last H4 B4 (u0.trans u4) v4 (by lia)
theorem Ey:aU ["_law_bag_here","_law_parts_here","_law_steps_here","_law_wide"] ["_law_bag_here","_law_parts_here","_law_steps_here","_law_wide"] (aN rL):=by walk_at "d"
theorem EV (T:Txt K mg Z) (ptree:P.given.tree=none):cK P w K mg base fK 4 Z.zj Z.yR ["_law_bag_here","_law_parts_here","_law_steps_here","_law_wide"] (FY K):=by
 have fE:=kL (P:=P) (w:=w) (base:=base) T ptree;refine T.pV.F.ok Ey (λvs H Q E h=>?_) (λcdv A outer s H vs Q E hr h=>?_)
 ·obtain ⟨b,r,tt,w,H0,mv,pt,lk,rfl,_⟩:=h;rfl
 ·obtain ⟨b,r,tt,w,H0,mv,pt,lk,rfl,hT,w1,w2,hB,nb,PQ,D,k⟩:=h;refine ⟨_,(aA (aV (bX ["_law_turn"] ["_law_bag_here","_law_parts_here","_law_wide"] [0,1,3] (cE rfl T.range (ae (pv 2) ai)) (λ_=>(aO (i:=0) (show ND9 ["_law_turn","_law_bag_here","_law_parts_here","_law_wide"] by decide +kernel))) (λ_=>cw) (λ_=>(cH fE hr T.fN (ae (pv 1) (ae (bL (CL K (by rfl)) (by rfl) T.len a7 (ae (aW (p9 K (by rfl)) (pv 2) ak) ai)) (ae (pv 3) ai)))))))),?_⟩;refine aQ (σ:=[some (.ref b),some (.ref r),some (.int tt),some (.int w)]) rfl ?_;have i4:=D.i4;exists ⟨by lia,by lia,?_⟩
  refine yi (n:=tt) (b:=b) (cY K H) (λxs=>xs.length=pt.length/\∀x∈xs,Dr (max w 6) x) hB (by lia) (λ{H' H'' c x} a u B=>by
   obtain ⟨q,e,nq,R⟩:=a;exact ⟨q,e,nq,R.upto u B (λz=>hB.at (by rw[<- z];exact nq))⟩) ?_ ?_
  ·rintro i Ha NY NN hi ua Ba k1;obtain ⟨m,p,l,g,n1,n2,n3,Gm,Gp,Gl⟩:=PQ.upto ua hB nb;obtain ⟨up,gp,qp,_⟩:=id Gp;have lup:=qp.length;exists ⟨_,_,rfl,.inl (bF.of gp),?_⟩;rw[<- lup];exists ⟨b,pt.length,w,rfl,Ba,by lia,w1,by lia,λq xs Hb nq R lx dx Bb ub=>?_⟩;exact k1 _ xs _ ub Bb ⟨lx,dx⟩ ⟨q,rfl,ua.none Ba nq,R⟩
  ·rintro ys cs Hz t ht uz Bz gz lc hc prz nx;exact k t cs Hz ht ⟨ys,gz,prz,jD nx⟩ lc hc Bz uz
theorem mP:aU ["_law_one","_law_other","_law_total","_law_k"] ["_law_one","_law_other"] (aN vh):=by walk_at "d"
theorem yF (T:Txt K mg Z) (ptree:P.given.tree=none):cK P w K mg base fK 3 Z.Ce Z.BQ ["_law_one","_law_other"] (Ep K):=by
 have ij:=mS (P:=P) (w:=w) (base:=base) T ptree;have hX:=lO (P:=P) (w:=w) (base:=base) T ptree;refine T.mW.F.ok mP (λvs H Q E h=>?_) (λcdv A outer s H vs Q E hr h=>?_)
 ·obtain ⟨p,q,xs,ys,rfl,_⟩:=h;rfl
 ·obtain ⟨p,q,xs,ys,rfl,hp,hq,hl,hz,⟨k1,j1,k2,j2,h1,h2,hkj⟩,kk⟩:=h
  refine ⟨_,(ar (aS (i:=2) mP.nd rfl (Or.inl rfl) (cW (ae ak (ae ak ai))))
   (ar (dR PassesOwn.never rfl (cE rfl T.range (ae (bL be (by rfl) T.len a7 (ae (pv 0) ai)) ai)) (aO (i:=3) mP.nd)
    (aA (aS (i:=2) mP.nd rfl (Or.inl rfl) (cH ij hr T.gZ (ae (pv 2) (ae (cH hX hr T.ig (ae (aW bA (pv 0) (pv 3)) (ae (aW bA (pv 1) (pv 3)) ai))) ai))))))
   (aA (aV (pv 2))))),?_⟩
  refine aQ (σ:=[some (.ref p),some (.ref q),none,none]) rfl ?_;obtain ⟨us,gu,qu⟩:=id hp;obtain ⟨ws,gw,qw⟩:=id hq;have lu:=qu.length;have lw:=qw.length;exists cu λr0 H0 s0 g0=>?_
  exists ⟨_,_,rfl,.inl (bF.of (s0 _ _ gu)),?_⟩;exists ⟨by lia,by lia,?_⟩;refine d9 (n:=us.length) (λi σ' H'=>aI H H'/\∃(r:V) (v:Option V),σ'=[some (.ref p),some (.ref q),some r,v]/\b6 K H' (cG (xs.take i) (ys.take i)) r) ⟨s0,_,none,rfl,b6.mk g0 rfl⟩ ?_ ?_
  ·rintro i σ' H' hi ⟨s,r,v,rfl,hr⟩;have ix:i < xs.length:=by lia
   have iy:i < ys.length:=by lia
   obtain ⟨vx,ex,nx⟩:=ML (Paired.imp' (λ_ _ z=>z.same s) qu) ix;obtain ⟨vy,ey,ny⟩:=ML (Paired.imp' (λ_ _ z=>z.same s) qw) iy;exists cn (bF.of (s _ _ gu)) ex ?_;exists cn (bF.of (s _ _ gw)) ey ?_;exists ⟨_,_,_,_,rfl,nx,ny,h1.szn (getD_mem ix) (by lia),h2.szn (getD_mem iy) (by lia),λr3 H3 s3 n3=>?_⟩;exists ⟨_,_,_,_,rfl,hr.same s3,n3,OK h1 h2 hz i hkj,Oa (h1.one (getD_mem ix)) (h2.one (getD_mem iy)) hkj,λr4 H4 s4 n4=>?_⟩;exists ⟨(s.trans s3).trans s4,_,_,rfl,by rw[DI ix iy];exact n4⟩
  ·rintro σ' H' ⟨s,r,v,rfl,hr⟩;rw[aE (by lia),aE (by lia)] at hr;obtain ⟨t,rfl,ht⟩:=hr;exists kk _ H' s ⟨t,rfl,ht⟩
theorem Jh:aU ["_law_grid","_law_row_here"] ["_law_grid","_law_row_here"] (aN xP):=by walk_at "d"
theorem A4 (T:Txt K mg Z) (ptree:P.given.tree=none):cK P w K mg base fK 4 Z.D8 Z.DP ["_law_grid","_law_row_here"] (Eo K):=by
 have vK:=yF (P:=P) (w:=w) (base:=base) T ptree;refine T.pW.F.ok Jh (λvs H Q E h=>?_) (λcdv A outer s H vs Q E hr h=>?_)
 ·obtain ⟨p,q,H0,rows,ys,rfl,_⟩:=h;rfl
 ·obtain ⟨p,q,H0,rows,ys,rfl,hp,hq,hz,hl,hr1,kk⟩:=h;refine ⟨_,(aA (aV (bX ["_law_one"] ["_law_row_here"] [1] (cB (pv 0)) (λ_=>(aO (i:=0) (show ND9 ["_law_one","_law_row_here"] by decide +kernel))) (λ_=>cw) (λ_=>(cH vK hr T.mW (ae (pv 0) (ae (pv 1) ai))))))),?_⟩;refine aQ (σ:=[some (.ref p),some (.ref q)]) rfl ?_;obtain ⟨xs,gx,qx,_⟩:=id hp;exists ⟨⟨_,bF.of gx⟩,?_⟩;refine dm (K:=K) (F:=cY K H0) (b6 K) (λxs=>cG xs ys) gx qx hz (λa b=>a.same b) (λa b=>a.same b) ?_ ?_
  ·rintro i ns x H' NY NN en s ⟨u,rfl,_,hu⟩ k;obtain ⟨e1,e2⟩:=hr1 ns (ao en);exists ⟨u,q,ns,ys,rfl,hu,hq.same s,e1.symm,by lia,e2,λr H2 s2 h2'=>k _ _ s2 h2'⟩
  ·rintro ys' H' r hr s g pr nx;exact kk r H' hr s ⟨ys',g,pr⟩
theorem ib:aU ["_law_parts_here","_law_state","_law_puts_here","_law_move_here","_law_put","_law_look","_law_found","_law_k"] ["_law_parts_here","_law_state","_law_puts_here"] (aN rO):=by walk_at "d"
theorem EW (T:Txt K mg Z) (ptree:P.given.tree=none):cK P w K mg base fK 5 Z.zx Z.yU ["_law_parts_here","_law_state","_law_puts_here"] (F4 K):=by
 have yx:=A4 (P:=P) (w:=w) (base:=base) T ptree;have kQ:=pM (P:=P) (w:=w) (base:=base) T ptree;have yy:=A7 (P:=P) (w:=w) (base:=base) T ptree;refine T.pX.F.ok ib (λvs H Q E h=>?_) (λcdv A outer s H vs Q E hr h=>?_)
 ·obtain ⟨r,s0,u0,H0,mv,pt,lk,st,pu,rfl,_⟩:=h;rfl
 ·obtain ⟨r,s0,u0,H0,mv,pt,lk,st,pu,rfl,PQ,D,hs,hu,l1,l2,NX,k⟩:=h
  refine ⟨_,(ar (fB (pv 0) (rX rfl (b9 (aO (i:=3) ib.nd) (b9 (aO (i:=4) ib.nd) (b9 (aO (i:=5) ib.nd) fL)))))
   (ar (aS (i:=6) ib.nd rfl (Or.inl rfl) (cH yx hr T.pW (ae (pv 3) (ae (pv 1) ai))))
   (ar (dR PassesOwn.never rfl (cE rfl T.range (ae (bL be (by rfl) T.len a7 (ae (pv 4) ai)) ai)) (aO (i:=7) ib.nd)
    (aA (aS (i:=6) ib.nd rfl (Or.inl rfl) (cH kQ hr T.jV (ae (pv 6) (ae (cH yy hr T.p5 (ae (aW bA (pv 2) (pv 7)) (ae (aW bA (pv 4) (pv 7)) ai))) ai))))))
   (aA (aV (pv 6)))))),?_⟩
  refine aQ (σ:=[some (.ref r),some (.ref s0),some (.ref u0),none,none,none,none,none]) rfl ?_;obtain ⟨m,p,l,g,n1,n2,n3,Gm,Gp,Gl⟩:=id PQ;have d1:=D.n8;have d2:=D.i4;exists ⟨m,s0,H0,mv,st,rfl,Gm,hs,by lia,by lia,λxs hx=>⟨by rw[D.mw xs hx,l1],NX.f2 xs hx⟩,λf H1 nf s1 R1=>?_⟩;obtain ⟨ps,gp,qp,_⟩:=Gp.same s1;have lp:=qp.length;exists ⟨_,_,rfl,.inl (bF.of gp),?_⟩;exists ⟨by lia,by lia,?_⟩;refine d9 (n:=ps.length) (λkk σ' H'=>∃(f:Addr) (x:Option V),σ'=[some (.ref r),some (.ref s0),some (.ref u0),some (.ref m),some (.ref p),some (.ref l),some (.ref f),x]/\H f=none/\aI H1 H'/\cz K H' f (nextK mv pt st pu kk)) ⟨f,none,rfl,nf,aI.refl _,by rw[Jz];exact R1⟩ ?_ ?_
  ·rintro kk σ' H' hk ⟨f',x,rfl,nf',s',R'⟩;have kp:kk < pt.length:=by lia
   have ku:kk < pu.length:=by lia
   obtain ⟨zs,gz,qz⟩:=(hu.same s1).same s';have lz:=qz.length;obtain ⟨vu,eu,nu⟩:=ML qz ku;obtain ⟨row,vr,er,ev,mr,q,rfl,_,Rq⟩:=dF qp kp
   have er':pt[kk]=row:=by
    rw[af kp] at er;exact cv er
   have eu':pu.getD kk 0=pu[kk]:=by rw[aa,af ku];rfl
   have mu:pu.getD kk 0∈pu:=getD_mem ku;exists cn (bF.of gz) eu ?_;exists cn (bF.of (s' _ _ gp)) (dA ev) ?_;exists ⟨vu,q,_,row,rfl,nu,NX.su _ mu,Rq.same s',by rw[D.pw row mr];lia,NX.sp row mr,λr1 H2 n1' s2 R2=>?_⟩;exists ⟨f',r1,_,_,rfl,R'.same s2,R2,by rw[aj,jE,D.pw row mr],by rw[jE];lia,NX.part kk,λy hy=>?_,λr2 H3 n2' s3 R3=>?_⟩
   ·obtain ⟨y',hy',rfl⟩:=az.mp hy;exact NX.mul _ mu row mr y' hy'
   ·exists ⟨s1.none (s'.none (s2.none n2')),(s'.trans s2).trans s3,?_⟩;have e:=JA (st:=st) (pu:=pu) (λxs hx=>by rw[D.mw xs hx,l1]) kp ku (by rw[er'];exact D.pw row mr);rw[er',<- eu'] at e;rw[<- e];exact R3
  ·rintro σ' H' ⟨f',x,rfl,nf',s',R'⟩;rw[tJ (by lia) (by lia)] at R';exists k f' H' nf' (s1.trans s') R'
theorem mO:aU ["_law_parts_here","_law_start","_law_rows","_law_state","_law_puts_here"] ["_law_parts_here","_law_start","_law_rows"] (aN vf):=by walk_at "d"
theorem GU (T:Txt K mg Z) (ptree:P.given.tree=none):cK P w K mg base fK 6 Z.Cd Z.BP ["_law_parts_here","_law_start","_law_rows"] (Kq K):=by
 have II:=EW (P:=P) (w:=w) (base:=base) T ptree;refine T.kM.F.ok mO (λvs H Q E h=>?_) (λcdv A outer s H vs Q E hr h=>?_)
 ·obtain ⟨r,s,p,H0,H1,mv,pt,lk,pus,st,rfl,_⟩:=h;rfl
 ·obtain ⟨r,s,p,H0,H1,mv,pt,lk,pus,st,rfl,PQ,D,Rs,ls,Gp,lp,wp,EF,k⟩:=h
  refine ⟨_,(ar (aS (i:=3) mO.nd rfl (Or.inl rfl) (du (iF K (by rfl)) (by rfl) T.list PyProof.Rows.boot_list (ae (pv 1) ai)))
   (ar (dR PassesOwn.never rfl (cB (pv 2)) (aO (i:=4) mO.nd)
    (aA (aS (i:=3) mO.nd rfl (Or.inl rfl) (cH II hr T.pX (ae (pv 0) (ae (pv 3) (ae (pv 4) ai)))))))
   (aA (aV (pv 3))))),?_⟩
  refine aQ (σ:=[some (.ref r),some (.ref s),some (.ref p),none,none]) rfl ?_;have d1:=D.n8;obtain ⟨ss,gs,qs⟩:=id Rs;obtain ⟨ps,gp,qp,_⟩:=id Gp;have lps:=qp.length;exists ⟨s,ss,rfl,.inl (bF.of gs),λc hc=>?_⟩;have sc:aI H (upd H c (.lst ss)):=aI.new hc;have Rc:cz K (upd H c (.lst ss)) c st:=⟨ss,aJ,Paired.imp' (λ_ _ z=>z.same sc) qs⟩;generalize upd H c (.lst ss)=Hc at sc Rc ⊢;exists ⟨⟨_,bF.of (sc _ _ gp)⟩,?_⟩;refine iX (K:=K) (a:=p) (xs:=ps) (λi σ' H'=>aI H H'/\∃q y,σ'=[some (.ref r),some (.ref s),some (.ref p),some (.ref q),y]/\H q=none/\cz K H' q (tV mv pt st pus i)) ⟨sc,c,_,rfl,hc,Rc⟩ (λi σ' H' _ ⟨e,_⟩=>bF.of (e _ _ gp)) ?_ ?_
  ·rintro i v σ' H' hv ⟨e,q,y,rfl,nq,Rq⟩;obtain ⟨pu,epu,u,rfl,_,Ru⟩:=bT qp hv;have hi:i < pus.length:=(aK.mp epu).1;have mp:=ao epu;exists ⟨r,q,u,H0,mv,pt,lk,_,pu,rfl,PQ.same e,D,Rq,cz.same Ru e,mM ls (by lia),wp pu mp,EF.nx D ls wp (by lia) epu,λq2 H2 n2 s2 R2=>?_⟩;rw[<- rf epu] at R2;exact ⟨e.trans s2,q2,_,rfl,e.none n2,R2⟩
  ·rintro σ' H' ⟨e,q,y,rfl,nq,Rq⟩;rw[<- lps] at Rq;exists k q H' nq e Rq
theorem fA:aU ["wholes","multiple","whole"] ["wholes"] (aN jM):=by walk_at "d"
theorem vA (T:Txt K mg Z) (ptree:P.given.tree=none):cK P w K mg base fK 2 Z.ng Z.mY ["wholes"] (Nk K):=by
 have gV:=jQ (P:=P) (w:=w) (base:=base) T ptree;refine T.jz.F.ok fA (λvs H Q E h=>?_) (λcdv A outer s H vs Q E hr h=>?_)
 ·obtain ⟨p,bs,M,rfl,_⟩:=h;rfl
 ·obtain ⟨p,bs,M,rfl,hp,hM,sM,hb,q⟩:=h
  refine ⟨_,(ar (aS (i:=1) fA.nd rfl (Or.inl rfl) ak)
   (ar (dR PassesOwn.never rfl (cB (pv 0)) (aO (i:=2) fA.nd)
    (aA (aS (i:=1) fA.nd rfl (Or.inl rfl) (bI dg (pv 1) (bI (iQ rfl fA rfl rfl rfl ptree (sY hr)) (pv 2) (cH gV hr T.fM (ae (pv 1) (ae (pv 2) ai))))))))
   (aA (aV (pv 1))))),?_⟩
  refine aQ (σ:=[some (.ref p),none,none]) rfl ?_;exists ⟨⟨_,hp⟩,?_⟩;refine iX (K:=K) (a:=p) (xs:=bs.map V.int) (λi σ' H'=>H'=H/\∃x,σ'=[some (.ref p),some (.int (ya (bs.take i) 1)),x]) ⟨rfl,none,rfl⟩ (λi σ' H' _ ⟨e,_⟩=>by subst e;exact hp) ?_ ?_
  ·rintro i x σ' H' hx ⟨rfl,y,rfl⟩;rw[aB] at hx
   obtain ⟨b,eb,rfl⟩:∃b,bs[i]?=some b/\x=.int b:=by
    cases e:bs[i]? with
    | none=>rw[e] at hx;cases hx
    | some b=>rw[e] at hx;cases hx;exact ⟨b,rfl,rfl⟩
   have b1:=hb b (ao eb);have sb:Sz 220000 b:=Fe hM b1.2 sM;have ht:∀c∈bs.take i,0 < c/\c∣M:=λc hc=>hb c (cO hc)
   have msz:Sz 220000 (ya (bs.take i) 1):=Fe hM (zU (by decide) (Int.one_dvd _) ht) sM;generalize hm:ya (bs.take i) 1=m at msz ⊢;have gp:0 < g m b:=Br (by lia);exists ⟨m,b,rfl,?_⟩;exists fY (show nv _ _ from ⟨by lia,(VS b1.1 sb).mono (by decide)⟩) ?_;rw[ck _ (by lia)];exists fY (show iw _ _ from .inr ⟨_,_,msz,sb.hi (t:=m) (by lia),by decide⟩) ?_;exists ⟨rfl,_,by rw[take_snoc eb,DC,hm];rfl⟩
  ·rintro σ' H' ⟨rfl,y,rfl⟩;walk_at "w";rw[aE (by simp)];exact q
theorem xE:aU ["row"] ["row"] (aN kU):=by walk_at "d"
theorem ko (T:Txt K mg Z) (ptree:P.given.tree=none):cK P w K mg base fK 3 Z.qN Z.qK ["row"] (Nl K):=by
 have xr:=vA (P:=P) (w:=w) (base:=base) T ptree;refine T.d7.F.ok xE (λvs H Q E h=>?_) (λcdv A outer s H vs Q E hr h=>?_)
 ·obtain ⟨p,ns,M,rfl,_⟩:=h;rfl
 ·obtain ⟨p,ns,M,rfl,hp,hl,hz,q⟩:=h;refine ⟨_,(aA (aV (cH xr hr T.jz (ae (bX ["value"] [] [] (cB (pv 0)) (λ_=>(aO (i:=0) (show ND9 ["value"] by decide +kernel))) (λ_=>cw) (λ_=>(aW (p9 K (by rfl)) (pv 0) ak))) ai)))),?_⟩;refine aQ (σ:=[some (.ref p)]) rfl ?_;obtain ⟨xs,gx,qx⟩:=id hp;have lx:=qx.length;exists ⟨⟨_,bF.of gx⟩,?_⟩;refine fJ (K:=K) (xs:=xs) (λi ys H'=>H'=H/\ys=((ns.take i).map (·.2)).map V.int) (aT (br (by lia))) ⟨rfl,rfl⟩ (λi ys H' _ ⟨e,_⟩=>by subst e;exact bF.of gx) ?_ ?_
  ·rintro i x ys H' hx hlen ⟨rfl,rfl⟩;obtain ⟨n,en,r,rfl,hr1⟩:=bT qx hx;exists ⟨rfl,by rw[take_snoc en];simp⟩
  ·rintro ys H' hy ⟨rfl,rfl⟩ l hl';exists ⟨l,ns.map (·.2),M,rfl,bF.of (by rw[aJ,aE (by lia)]),hz.1,hz.2.1,λb hb=>?_,?_⟩
   ·obtain ⟨n,hn,rfl⟩:=az.mp hb;exact ⟨(hz.2.2 n hn).1,(hz.2.2 n hn).2.1⟩
   ·exact q _ (aI.new hl')
theorem vS:aU ["row","bottom"] ["row","bottom"] (aN rB):=by walk_at "d"
theorem pL (T:Txt K mg Z) (ptree:P.given.tree=none):cK P w K mg base fK 1 Z.y9 Z.yK ["row","bottom"] (FW K):=by
 refine T.ie.F.ok vS (λvs H Q E h=>?_) (λcdv A outer s H vs Q E hr h=>?_)
 ·obtain ⟨p,ns,M,B,rfl,_⟩:=h;rfl
 ·obtain ⟨p,ns,M,B,rfl,hp,hl,hz,hB,sB,q⟩:=h;refine ⟨_,(aA (aV (bX ["value"] ["bottom"] [1] (cB (pv 0)) (λ_=>(aO (i:=0) (show ND9 ["value","bottom"] by decide +kernel))) (λ_=>cw) (λ_=>(bI dg (aW (p9 K (by rfl)) (pv 0) ak) (bI (iQ rfl vS rfl rfl rfl ptree (sY hr)) (pv 1) (aW (p9 K (by rfl)) (pv 0) ak))))))),?_⟩;refine aQ (σ:=[some (.ref p),some (.int B)]) rfl ?_;obtain ⟨xs,gx,qx⟩:=id hp;have lx:=qx.length;exists ⟨⟨_,bF.of gx⟩,?_⟩;refine fJ (K:=K) (xs:=xs) (λi ys H'=>H'=H/\ys=(dO (ns.take i) B).map V.int) (aT (br (by lia))) ⟨rfl,rfl⟩ (λi ys H' _ ⟨e,_⟩=>by subst e;exact bF.of gx) ?_ ?_
  ·rintro i x ys H' hx hlen ⟨rfl,rfl⟩;obtain ⟨n,en,r,rfl,hr1⟩:=bT qx hx;have nz:=hz.2.2 n (ao en);have sn:Sz 220000 n.2:=Fe hz.1 nz.2.1 hz.2.1;exists fY (show nv _ _ from ⟨by lia,sn.mono (by decide)⟩) ?_;rw[ck _ (by lia)]
   have sq:Sz 220000 (B / n.2):=sB.le (by
    rw[T2 (by lia)];exact Nat.div_le_self ..)
   exists fY (show iw _ _ from .inr ⟨_,_,nz.2.2,sq,by decide⟩) ?_;exact ⟨rfl,by rw[take_snoc en];simp [dO]⟩
  ·rintro ys H' hy ⟨rfl,rfl⟩ l hl';exact q l _ hl' (aI.new hl') (by rw[aJ,aE (by lia)])
theorem oI:aU ["top","bottom","divisor"] ["top","bottom"] (aN AG):=by walk_at "d"
theorem kj (T:Txt K mg Z) (ptree:P.given.tree=none):cK P w K mg base fK 2 Z.Ip Z.HY ["top","bottom"] LM:=by
 have gV:=jQ (P:=P) (w:=w) (base:=base) T ptree;refine T.ja.F.ok oI (λvs H Q E h=>?_) (λcdv A outer s H vs Q E hr h=>?_)
 ·obtain ⟨t,b,rfl,_⟩:=h;rfl
 ·obtain ⟨t,b,rfl,hb,hs,k⟩:=h
  refine ⟨_,(ar (aS (i:=2) oI.nd rfl (Or.inl rfl) (cH gV hr T.fM (ae (pv 0) (ae (pv 1) ai))))
   (ar (dh (bw ue (pv 1) ak (bM _)) (aA (aS (i:=2) oI.nd rfl (Or.inl rfl) (t9 nK (pv 2)))) b8)
   (aA (aV (cW (ae (bI (iQ rfl oI rfl rfl rfl ptree (sY hr)) (pv 0) (pv 2)) (ae (bI (iQ rfl oI rfl rfl rfl ptree (sY hr)) (pv 1) (pv 2)) ai))))))),?_⟩
  refine aQ (σ:=[some (.int t),some (.int b),none]) rfl ?_;exists ⟨t,b,rfl,?_⟩;have hg:=Br (t:=t) hb
  have hgs:Sz 449950 (g t b):=hs.le (by
   have h1:(g t b).natAbs=Int.gcd t b:=by unfold g;simp
   rw[h1];exact lD (by lia) (by have:=fQ (a:=t) (b:=b);exact ik.mpr this |> λz=>by simpa using z))
  have hgn:g (-t) (-b)=g t b:=by unfold g;rw[Int.gcd_neg,Int.neg_gcd]
  exists iK (λh=>?_) (λh=>?_)
  ·have hb0:b < 0:=of_decide_eq_true h;exists fY (show nv _ _ from ⟨by lia,hgs.neg⟩) ?_;exists fY (show nv _ _ from ⟨by lia,hgs.neg⟩) ?_;exists cu λr H' s' h'=>?_
   have e1:t.fdiv (-g t b)=lo (-t) (-b):=by
    unfold Nm.lo;rw[hgn,<- ck _ (by lia),<- Int.neg_fdiv_neg (-t),Int.neg_neg]
   have e2:b.fdiv (-g t b)=hi (-t) (-b):=by
    unfold Nm.hi;rw[hgn,<- ck _ (by lia),<- Int.neg_fdiv_neg (-b),Int.neg_neg]
   exact k r H' s' (by rw[if_pos hb0,if_pos hb0,<- e1,<- e2];exact h')
  ·have hb0:¬b < 0:=λz=>h (decide_eq_true z)
   exists fY (show nv _ _ from ⟨by lia,hgs⟩) ?_;exists fY (show nv _ _ from ⟨by lia,hgs⟩) ?_;exists cu λr H' s' h'=>?_
   rw[ck _ (by lia),ck _ (by lia)] at h';exact k r H' s' (by rw[if_neg hb0,if_neg hb0];exact h')
theorem iN:aU ["one","other","one_bottom","other_bottom","pairs"] ["one","other"] (aN xG):=by walk_at "d"
theorem AW (T:Txt K mg Z) (ptree:P.given.tree=none):cK P w K mg base fK 4 Z.yk Z.yg ["one","other"] (Ep K):=by
 have eS:=ko (P:=P) (w:=w) (base:=base) T ptree;have iY:=pL (P:=P) (w:=w) (base:=base) T ptree;have gU:=kj (P:=P) (w:=w) (base:=base) T ptree;refine T.jy.F.ok iN (λvs H Q E h=>?_) (λcdv A outer s H vs Q E hr h=>?_)
 ·obtain ⟨p,q,xs,ys,rfl,_⟩:=h;rfl
 ·obtain ⟨p,q,xs,ys,rfl,hp,hq,hl,hz,⟨k1,j1,k2,j2,h1,h2,hkj⟩,kk⟩:=h
  refine ⟨_,(ar (aS (i:=2) iN.nd rfl (Or.inl rfl) (cH eS hr T.d7 (ae (pv 0) ai)))
   (ar (aS (i:=3) iN.nd rfl (Or.inl rfl) (cH eS hr T.d7 (ae (pv 1) ai)))
   (ar (aS (i:=4) iN.nd rfl (Or.inl rfl) (AS rfl T.list rfl T.zip (ae (cH iY hr T.ie (ae (pv 0) (ae (pv 2) ai))) (ae (cH iY hr T.ie (ae (pv 1) (ae (pv 3) ai))) ai))))
   (aA (aV (cH gU hr T.ja (ae (bL (Ik rfl) (by rfl) T.sum PyProof.Rows.boot_sum (ae (bX ["mine","yours"] [] [] (cB (pv 4)) (λ_=>(kz K 2 (b9 (aO (i:=0) (show ND9 ["mine","yours"] by decide +kernel)) (b9 (aO (i:=1) (show ND9 ["mine","yours"] by decide +kernel)) fL)))) (λ_=>cw) (λ_=>(bI dg (pv 0) (pv 1)))) ai)) (ae (bI dg (pv 2) (pv 3)) ai)))))))),?_⟩
  refine aQ (σ:=[some (.ref p),some (.ref q),none,none,none]) rfl ?_;obtain ⟨M,h1⟩:=h1.rowM (by lia);obtain ⟨N,h2⟩:=h2.rowM (by lia);replace hp:=hp.rowK;replace hq:=hq.rowK;replace hl:(ys.map nm).length=(xs.map nm).length:=by simpa using hl
  replace hz:(xs.map nm).length<=1000:=by simpa using hz
  obtain ⟨b1,s1⟩:=h1.bot;obtain ⟨b2,s2⟩:=h2.bot;have k2:∀r H',aI H H'->H' r=some (.tup [.int (lo (JR (xs.map nm) (ys.map nm)) (fj (xs.map nm)*fj (ys.map nm))),.int (hi (JR (xs.map nm) (ys.map nm)) (fj (xs.map nm)*fj (ys.map nm)))])->Q (.ref r) H':=λr H' s g=>kk r H' s (b6.mk g (La b1 b2))
  clear kk;generalize xs.map nm=ns at hp hq hl hz h1 h2 b1 b2 s1 s2 k2;generalize ys.map nm=ms at hp hq hl hz h1 h2 b1 b2 s1 s2 k2;have hb:0 < fj ns*fj ms:=jq b1 b2;exists ⟨p,ns,M,rfl,hp,hz,h1,λH1 t1=>?_⟩;exists ⟨q,ms,N,rfl,hq.same t1,by lia,h2,λH2 t2=>?_⟩;have u2:=t1.trans t2;exists ⟨p,ns,M,_,rfl,hp.same u2,hz,h1,b1,s1,λr1 H3 n3 t3 g3=>?_⟩;exists ⟨q,ms,N,_,rfl,(hq.same u2).same t3,by lia,h2,b2,s2,λr2 H4 n4 t4 g4=>?_⟩;exists ⟨r1,r2,_,_,rfl,bF.of (t4 _ _ g3),bF.of g4,by simp [dO,hl],λL ts H5 t5 n5 g5 pr=>?_⟩;have lt:=pr.length;have ll:(dO ns (fj ns)).length=ns.length:=by simp [dO]
  have lm:(dO ms (fj ms)).length=ns.length:=by simp [dO,hl]
  rw[qV,aj,aj,ll,lm] at lt;exists ⟨⟨_,bF.of g5⟩,?_⟩;refine fJ (K:=K) (xs:=ts) (λi ys H'=>H'=H5/\ys=((List.zipWith (λx y=>x*y) (dO ns (fj ns)) (dO ms (fj ms))).take i).map V.int) (aT (br (by lia))) ⟨rfl,rfl⟩ (λi ys H' _ ⟨e,_⟩=>by subst e;exact bF.of g5) ?_ ?_
  ·rintro i x ys H' hx hlen ⟨rfl,rfl⟩;obtain ⟨pq,epq,T,rfl,gT⟩:=bT pr hx;obtain ⟨t,u,et,eu,rfl⟩:=Ka epq;exists fY (show iw _ _ from .inr ⟨_,_,vN h1 b1 s1 (ao et),vN h2 b2 s2 (ao eu),by decide⟩) ?_;have ez:(List.zipWith (λx y=>x*y) (dO ns (fj ns)) (dO ms (fj ms)))[i]?=some (t*u):=by rw[bu,et,eu]
   exact ⟨rfl,by rw[take_snoc ez];simp⟩
  ·rintro ys H' hy ⟨rfl,rfl⟩ l hl';exists ⟨l,List.zipWith (λx y=>x*y) (dO ns (fj ns)) (dO ms (fj ms)),rfl,bF.of (by rw[aJ,aE (by rw[bo];lia)]),?_⟩;exists fY (show iw _ _ from .inr ⟨_,_,s1,s2,by decide⟩) ?_;exists ⟨_,_,rfl,by lia,(s1.mul s2).mono (by decide),λr H6 t6 g6=>?_⟩;rw[if_neg (by lia),if_neg (by lia)] at g6;exact k2 r H6 ((((u2.trans t3).trans t4).trans t5).trans ((aI.new hl').trans t6)) g6
theorem Az:aU ["grid","row"] ["grid","row"] (aN xN):=by walk_at "d"
theorem vz (T:Txt K mg Z) (ptree:P.given.tree=none):cK P w K mg base fK 5 Z.yl Z.yh ["grid","row"] (Eo K):=by
 have yr:=AW (P:=P) (w:=w) (base:=base) T ptree;refine T.iT.F.ok Az (λvs H Q E h=>?_) (λcdv A outer s H vs Q E hr h=>?_)
 ·obtain ⟨p,q,H0,rows,ys,rfl,_⟩:=h;rfl
 ·obtain ⟨p,q,H0,rows,ys,rfl,hp,hq,hz,hl,hr1,kk⟩:=h;refine ⟨_,(aA (aV (bX ["line"] ["row"] [1] (cB (pv 0)) (λ_=>(aO (i:=0) (show ND9 ["line","row"] by decide +kernel))) (λ_=>cw) (λ_=>(cH yr hr T.jy (ae (pv 0) (ae (pv 1) ai))))))),?_⟩;refine aQ (σ:=[some (.ref p),some (.ref q)]) rfl ?_;obtain ⟨xs,gx,qx,_⟩:=id hp;exists ⟨⟨_,bF.of gx⟩,?_⟩;refine dm (K:=K) (F:=cY K H0) (b6 K) (λxs=>cG xs ys) gx qx hz (λa b=>a.same b) (λa b=>a.same b) ?_ ?_
  ·rintro i ns x H' NY NN en s ⟨u,rfl,_,hu⟩ k;obtain ⟨e1,e2⟩:=hr1 ns (ao en);exists ⟨u,q,ns,ys,rfl,hu,hq.same s,e1.symm,by lia,e2,λr H2 s2 h2'=>k _ _ s2 h2'⟩
  ·rintro ys' H' r hr s g pr nx;exact kk r H' hr s ⟨ys',g,pr⟩
theorem Cy:aU ["system","rows"] ["system","rows"] (aN o9):=by walk_at "d"
theorem uf (T:Txt K mg Z) (ptree:P.given.tree=none):cK P w K mg base fK 6 Z.xf Z.wJ ["system","rows"] (Dg K Z.a_System):=by
 have oU:=vz (P:=P) (w:=w) (base:=base) T ptree;refine T.kB.F.ok Cy (λvs H Q E h=>?_) (λcdv A outer s H vs Q E hr h=>?_)
 ·obtain ⟨x,p,H0,H1,mv,pt,lk,R,rfl,_⟩:=h;rfl
 ·obtain ⟨x,p,H0,H1,mv,pt,lk,R,rfl,S,D,G,l100,wR,hf,k⟩:=h;refine ⟨_,(aA (aV (bX ["row"] ["system"] [0] (cB (pv 1)) (λ_=>(aO (i:=0) (show ND9 ["row","system"] by decide +kernel))) (λ_=>cw) (λ_=>(cH oU hr T.iT (ae (KJ K (pv 1) rfl) (ae (pv 0) ai))))))),?_⟩;refine aQ (σ:=[some (.ref x),some (.ref p)]) rfl ?_;obtain ⟨dx,a',b',c',gx,_,_,_,Ga,Gb,Gc⟩:=id S;have d8:=D.n8;obtain ⟨xs,gxs,qx,_⟩:=id G;exists ⟨⟨_,bF.of gxs⟩,?_⟩;refine dm (K:=K) (F:=cY K H1) (cY K H) (mJ mv) gxs qx (by lia) (λa b=>a.same b) (λa b=>a.same b) ?_ ?_
  ·rintro i ns v H' NY NN en s ⟨u,rfl,_,hu⟩ k1;have mn:=ao en;exists ⟨x,Z.a_System,dx,_,_,rfl,s _ _ gx,T.cl_System,T.na_move,qY,?_⟩;exists ⟨a',u,H0,mv,ns,rfl,Ga.same s,hu,by lia,by rw[wR ns mn];lia,λxs hx=>⟨by rw[D.mw xs hx,wR ns mn],hf xs hx ns mn⟩,λr H2 nr s2 R2=>k1 _ _ s2 ⟨r,rfl,s.none nr,R2⟩⟩
  ·rintro ys H' r hr s g pr nx;exact k r H' hr s ⟨ys,g,pr,jD nx⟩
theorem jK:aU ["system","steps","lists","rows","step"] ["system","steps"] (aN rH):=by walk_at "d"
theorem ET (T:Txt K mg Z) (ptree:P.given.tree=none):cK P w K mg base fK 7 Z.zg Z.yO ["system","steps"] (Gg K Z.a_System):=by
 have qr:=uf (P:=P) (w:=w) (base:=base) T ptree;refine T.pT.F.ok jK (λvs H Q E h=>?_) (λcdv A outer s H vs Q E hr h=>?_)
 ·obtain ⟨x,u,H0,mv,pt,lk,rfl,_⟩:=h;rfl
 ·obtain ⟨x,u,H0,mv,pt,lk,rfl,hu,S,D,F,k⟩:=h
  refine ⟨_,(ar (aS (i:=2) jK.nd rfl (Or.inl rfl) (dc ai))
   (ar (aS (i:=3) jK.nd rfl (Or.inl rfl) (eP (pv 0) rfl))
   (ar (dR PassesOwn.never rfl (cE rfl T.range (ae (pv 1) ai)) (aO (i:=4) jK.nd)
    (ar (ic (qH cx cD cC gQ (pv 2) (ae (pv 3) ai)))
   (aA (aS (i:=3) jK.nd rfl (Or.inl rfl) (cH qr hr T.kB (ae (pv 0) (ae (pv 3) ai)))))))
   (aA (aV (pv 2)))))),?_⟩
  refine aQ (σ:=[some (.ref x),some (.int u),none,none,none]) rfl ?_;obtain ⟨dx,a',b',c',gx,_,_,_,Ga,Gb,Gc⟩:=id S;have d8:=D.n8;have i4:=D.i4;exists cS λl H1 s1 n1 g1=>?_
  exists ⟨x,Z.a_System,dx,_,_,rfl,s1 _ _ gx,T.cl_System,T.na_put,zP,?_⟩;walk_at "w";obtain ⟨bl,G0⟩:=Gb.off n1;have G1:=G0.same s1;refine ⟨by lia,by lia,?_⟩;refine d9 (n:=u) (λi σ' H'=>aI H H'/\∃q us y,σ'=[some (.ref x),some (.int u),some (.ref l),some (.ref q),y]/\q≠l/\H' l=some (.lst us)/\Paired (IQ K l H') (Cs mv pt i) us/\bB K (EZ l) H' q (pt.map (d6 mv i))) ⟨s1,b',[],_,rfl,bl,g1,.nil,by rw[show pt.map (d6 mv 0)=pt from mG pt];exact G1⟩ ?_ ?_
  ·rintro i σ' H' hi ⟨s',q,us,y,rfl,ql,gu,pu,Gq⟩;have lu:=pu.length;have la:(Cs mv pt i).length=i:=by unfold Cs;rw[aj,bR]
   exists ⟨.inl ⟨rfl,_,bF.of gu⟩,?_⟩;exists gL gu (br (by lia)) ?_;have s2:aI H (upd H' l (.lst (us++[V.ref q]))):=s'.after n1;have g2:(upd H' l (.lst (us++[V.ref q]))) l=some (.lst (us++[V.ref q])):=aJ
   have p2:Paired (IQ K l (upd H' l (.lst (us++[V.ref q])))) (Cs mv pt (i+1)) (us++[V.ref q]):=by
    rw[zZ];exact bV (Paired.imp' (λ_ _ z=>IQ.upd z gu) pu) (.cons ⟨q,rfl,ql,Gq.updL gu off_ne ql⟩ .nil)
   have Gq2:=Gq.updL (o:=.lst (us++[V.ref q])) gu off_ne ql;generalize upd H' l (.lst (us++[V.ref q]))=H2 at s2 g2 p2 Gq2 ⊢;walk_at "w"
   refine ⟨x,q,H0,EZ l,mv,pt,lk,_,rfl,S.same s2,D,Gq2,by rw[aj];lia,λr hr=>?_,λxs hx r hr=>(by
     obtain ⟨y,hy,rfl⟩:=az.mp hr;exact ((F.row D.mw D.pw y hy).fit D.mw (D.pw y hy) (by lia)).1 xs hx),λr H3 nr s3 G3=>?_⟩
   ·obtain ⟨y,hy,rfl⟩:=az.mp hr;exact jO (D.pw y hy) i
   ·have e:(pt.map (d6 mv i)).map (mJ mv)=pt.map (d6 mv (i+1)):=by rw[nH];rfl
    rw[e] at G3;exact ⟨s2.trans s3,r,_,_,rfl,λz=>(by rw[z,g2] at nr;cases nr),s3 _ _ g2,Paired.imp' (λ_ _ z=>IQ.same z s3) p2,G3.weakN λq h=>N7 λz=>by rw[z,g2] at h;cases h⟩
  ·rintro σ' H' ⟨s',q,us,y,rfl,ql,gu,pu,Gq⟩;exists k l us H' n1 s' gu pu
theorem Nv:aU ["one","other"] ["one","other"] (aN EI):=by walk_at "d"
theorem GQ (T:Txt K mg Z) (ptree:P.given.tree=none):cK P w K mg base fK 3 Z.Lv Z.Lk ["one","other"] (o3 K (λx y=>x - y)):=by
 have gU:=kj (P:=P) (w:=w) (base:=base) T ptree;refine T.wg.F.ok Nv (λvs H Q E h=>?_) (λcdv A outer s H vs Q E hr h=>?_)
 ·obtain ⟨p,q,a,b,c,d,rfl,hp,hq,hb,hd,sa,sb,sc,sd,k⟩:=Ki h;rfl
 ·obtain ⟨p,q,a,b,c,d,rfl,hp,hq,hb,hd,sa,sb,sc,sd,k⟩:=Ki h;refine ⟨_,(aA (aV (cH gU hr T.ja (ae (bI kX (bI dg (aW bU (pv 0) ak) (aW bU (pv 1) ak)) (bI dg (aW bU (pv 1) ak) (aW bU (pv 0) ak))) (ae (bI dg (aW bU (pv 0) ak) (aW bU (pv 1) ak)) ai))))),?_⟩;refine aQ (σ:=[some (.ref p),some (.ref q)]) rfl ?_;have hbd:0 < b*d:=jq hb hd;have sbd:Sz 449950 (b*d):=(sb.mul sd).mono (by decide);exists fY (show iw _ _ from .inr ⟨_,_,sa,sd,by decide⟩) ?_;exists fY (show iw _ _ from .inr ⟨_,_,sc,sb,by decide⟩) ?_;exists fY (show iw _ _ from .inr ⟨_,_,sb,sd,by decide⟩) ?_;walk_at "w";exists ⟨_,_,rfl,by lia,sbd,λr H' s' h'=>?_⟩;rw[if_neg (by lia),if_neg (by lia)] at h';exact k r H' s' h'
theorem Et:aU ["one","other"] ["one","other"] (aN rD):=by walk_at "d"
theorem ER (T:Txt K mg Z) (ptree:P.given.tree=none):cK P w K mg base fK 4 Z.za Z.yL ["one","other"] (Dk K):=by
 have Fu:=GQ (P:=P) (w:=w) (base:=base) T ptree;refine T.pP.F.ok Et (λvs H Q E h=>?_) (λcdv A outer s H vs Q E hr h=>?_)
 ·obtain ⟨p,q,xq,yq,rfl,_⟩:=h;rfl
 ·obtain ⟨p,q,xq,yq,rfl,hp,hq,hl,hz,hn,hm,k⟩:=h;refine ⟨_,(aA (aV (bX ["mine","yours"] [] [] (lK rfl T.zip (ae (pv 0) (ae (pv 1) ai))) (λ_=>(kz K 2 (b9 (aO (i:=0) (show ND9 ["mine","yours"] by decide +kernel)) (b9 (aO (i:=1) (show ND9 ["mine","yours"] by decide +kernel)) fL)))) (λ_=>cw) (λ_=>(cH Fu hr T.wg (ae (pv 0) (ae (pv 1) ai))))))),?_⟩;refine aQ (σ:=[some (.ref p),some (.ref q)]) rfl ?_;obtain ⟨xs,gx,qx⟩:=id hp;obtain ⟨ys,gy,qy⟩:=id hq;have lx:=qx.length;have ly:=qy.length;exists ⟨⟨_,bF.of gx⟩,⟨_,bF.of gy⟩,?_⟩;refine mE (K:=K) (xs:=xs) (ws:=ys) (λi zs H'=>aI H H'/\Paired (b6 K H') ((List.zipWith (λx y=>x - y) xq yq).take i) zs) (aT (br (by lia))) (by lia) ⟨aI.refl _,.nil⟩ (λi zs H' _ ⟨s,_⟩=>⟨bF.of (s _ _ gx),bF.of (s _ _ gy)⟩) ?_ ?_
  ·rintro i x y zs H' r hx hy hlen ⟨s,hP⟩ hr;obtain ⟨n,en,hn1⟩:=bT qx hx;obtain ⟨m,em,hm1⟩:=bT qy hy;have s1:=aI.new (o:=.tup [x,y]) hr;have s01:=s.trans s1;have gr:(upd H' r (.tup [x,y])) r=some (.tup [x,y]):=aJ;generalize upd H' r (.tup [x,y])=Hr at s1 s01 gr ⊢;exists ⟨_,_,n,m,rfl,hn1.same s01,hm1.same s01,hn n (ao en),hm m (ao em),λr3 H3 s3 h3=>?_⟩;refine ⟨s01.trans s3,?_⟩;have ez:(List.zipWith (λx y=>x - y) xq yq)[i]?=some (n - m):=by rw[bu,en,em]
   rw[take_snoc ez];exact bV (Paired.imp' (λ_ _ z=>z.same (s1.trans s3)) hP) (.cons h3 .nil)
  ·rintro zs H' hy ⟨s,hP⟩ l hl';rw[aE (by rw[bo];lia)] at hP;exact k l _ (s.none hl') (s.trans (aI.new hl')) ⟨zs,aJ,Paired.imp' (λ_ _ z=>z.same (aI.new hl')) hP⟩
theorem Ay:aU ["grid","wide"] ["grid","wide"] (aN nQ):=by walk_at "d"
theorem iS (T:Txt K mg Z) (ptree:P.given.tree=none):cK P w K mg base fK 1 Z.uJ Z.uk ["grid","wide"] (FV K):=by
 refine T.fD.F.ok Ay (λvs H Q E h=>?_) (λcdv A outer s H vs Q E hr h=>?_)
 ·obtain ⟨p,w,H0,rows,rfl,_⟩:=h;rfl
 ·obtain ⟨p,w,H0,rows,rfl,hp,hz,hw,hl,kk⟩:=h;refine ⟨_,(aA (aV (bX ["place"] ["grid"] [0] (cE rfl T.range (ae (pv 1) ai)) (λ_=>(aO (i:=0) (show ND9 ["place","grid"] by decide +kernel) rfl (Or.inr rfl) (Or.inl rfl))) (λ_=>cw) (λ_=>(bX ["line"] ["place"] [0] (AQ K (pv 1)) (λ_=>(aO (i:=0) (show ND9 ["line","place"] by decide +kernel))) (λ_=>cw) (λ_=>(aW (oM K (by rfl)) (pv 0) (pv 1)))))))),?_⟩;refine aQ (σ:=[some (.ref p),some (.int w)]) rfl ?_;exists ⟨by lia,by lia,?_⟩;refine jc (n:=w) (cY K H) (λj=>rows.map λxs=>xs.getD j 0) hw (λa b=>a.same b) ?_ ?_
  ·rintro j H1 NY NN hj s1 k1;obtain ⟨xs,gx,qx,_⟩:=hp.same s1;exists ⟨⟨_,bF.of gx⟩,?_⟩;refine dm (K:=K) (F:=cY K H0) (b6 K) (λxs=>xs.getD j 0) gx qx hz (λa b=>a.same b) (λa b=>a.same b) ?_ ?_
   ·rintro i ns x H2 NY2 NN2 en s2 ⟨u,rfl,_,zs,gz,qz⟩ k2;obtain ⟨v,ev,hv⟩:=ML qz (j:=j) (by rw[hl ns (ao en)];exact hj);exists cn (bF.of gz) ev ?_;exact k2 _ _ (aI.refl _) hv
   ·rintro ys' H2 r hr s2 g pr nx;exact k1 _ _ s2 ⟨r,rfl,s1.none hr,ys',g,pr⟩
  ·rintro ys' H1 r hr s1 g pr nx;exact kk r H1 hr s1 ⟨ys',g,pr,jD nx⟩
theorem qF:aU ["self","state","puts","columns"] ["self","state","puts"] (aN gK):=by walk_at "d"
theorem zI (T:Txt K mg Z) (ptree:P.given.tree=none):cK P w K mg base fK 5 Z.mF Z.mD ["self","state","puts"] (Di K Z.a_System):=by
 have eI:=iS (P:=P) (w:=w) (base:=base) T ptree;have yr:=AW (P:=P) (w:=w) (base:=base) T ptree;refine T.tz.ok qF (λvs H Q E h=>?_) (λcdv A outer s H vs Q E hr h=>?_)
 ·obtain ⟨x,p,q,H0,mv,pt,lk,st,pu,rfl,_⟩:=h;rfl
 ·obtain ⟨x,p,q,H0,mv,pt,lk,st,pu,rfl,S,D,F,hp,hq,l1,l2,fs,k⟩:=h
  refine ⟨_,(ar (aS (i:=3) qF.nd rfl (Or.inl rfl) (cH eI hr T.fD (ae (eP (pv 0) rfl) (ae (eP (pv 0) rfl) ai))))
   (aA (aV (bX ["line","column"] ["state","puts"] [1,2] (lK rfl T.zip (ae (eP (pv 0) rfl) (ae (pv 3) ai))) (λ_=>(kz K 2 (b9 (aO (i:=0) (show ND9 ["line","column","state","puts"] by decide +kernel)) (b9 (aO (i:=1) (show ND9 ["line","column","state","puts"] by decide +kernel)) fL)))) (λ_=>cw) (λ_=>(cH yr hr T.jy (ae (bI jP (pv 0) (pv 1)) (ae (bI jP (pv 2) (pv 3)) ai)))))))),?_⟩
  refine aQ (σ:=[some (.ref x),some (.ref p),some (.ref q),none]) rfl ?_;obtain ⟨dx,a,b,c,gx,n1,n2,n3,Ga,Gb,Gc⟩:=id S;have d1:=D.n8;have d2:=D.i4;exists ⟨x,Z.a_System,dx,_,_,rfl,gx,T.cl_System,T.na_put,zP,?_⟩;exists ⟨x,Z.a_System,dx,_,_,rfl,gx,T.cl_System,T.na_states,ia,?_⟩;exists ⟨b,mv.length,H0,pt,rfl,Gb,by lia,by lia,D.pw,λt H1 nt s1 Gt=>?_⟩;obtain ⟨as,ga,qa,_⟩:=Ga.same s1;obtain ⟨ts,gt,qt,_⟩:=id Gt;have la:=qa.length;have lt:=qt.length;rw[cL] at lt;have gx1:=s1 _ _ gx;exists ⟨x,Z.a_System,dx,_,_,rfl,gx1,T.cl_System,T.na_move,qY,?_⟩;exists ⟨⟨_,bF.of ga⟩,⟨_,bF.of gt⟩,?_⟩;refine mE (K:=K) (xs:=as) (ws:=ts) (λi ys H'=>aI H1 H'/\Paired (b6 K H') ((iH mv pt st pu).take i) ys) (aT (br (by lia))) (by lia) ⟨aI.refl _,.nil⟩ (λi ys H' _ ⟨s,_⟩=>⟨bF.of (s _ _ ga),bF.of (s _ _ gt)⟩) ?_ ?_
  ·rintro i v1 v2 ys H' r h1 h2 hy ⟨s,pr⟩ hr;obtain ⟨line,el,u1,rfl,_,R1⟩:=bT qa h1;obtain ⟨col,ec,u2,rfl,_,R2⟩:=bT qt h2;have ml:=ao el;have mc:=ao ec;have sr:aI H' (upd H' r (.tup [.ref u1,.ref u2])):=aI.new hr;have gr:(upd H' r (.tup [.ref u1,.ref u2])) r=some (.tup [.ref u1,.ref u2]):=aJ;have s2:=s.trans sr;generalize upd H' r (.tup [.ref u1,.ref u2])=H2 at sr gr s2 ⊢;have lc:col.length=pt.length:=iB col mc;have ll:line.length=mv.length:=D.mw line ml;obtain ⟨z1,g1,q1⟩:=R1.same s2;obtain ⟨z2,g2,q2⟩:=R2.same s2;have y1:=q1.length;have y2:=q2.length;exists kW g1 g2 (aT (br (by lia))) λc1 H3 s3 n3' g3=>?_
   have s13:=s2.trans s3;obtain ⟨z3,g4,q3⟩:=(hp.same s1).same s13;obtain ⟨z4,g5,q4⟩:=(hq.same s1).same s13;have y3:=q3.length;have y4:=q4.length;exists kW g4 g5 (aT (br (by lia))) λc2 H4 s4 n4 g6=>?_
   have s34:=s3.trans s4;exists ⟨c1,c2,line++col,st++pu,rfl,⟨_,s4 _ _ g3,Paired.imp' (λ_ _ z=>z.same s34) (bV q1 q2)⟩,⟨_,g6,Paired.imp' (λ_ _ z=>z.same s4) (bV q3 q4)⟩,by rw[aw,aw];lia,by rw[aw];lia,.sys ?_ fs,λr2 H5 s5 h5=>?_⟩
   ·refine F.fits λy hy=>?_
    rcases aH.mp hy with hy | hy
    ·exact .inl ⟨line,ml,hy⟩
    ·obtain ⟨j,_,rfl⟩:=az.mp mc;obtain ⟨xs,hx,rfl⟩:=az.mp hy;by_cases hj:j < xs.length
     ·refine .inr (.inl ⟨xs,hx,?_⟩);rw[aa,af hj];exact aM hj
     ·exact .inr (.inr (.inr (by rw[aa,bg (by lia)];rfl)))
   ·have em:(iH mv pt st pu)[i]?=some (cG (line++col) (st++pu)):=by
     unfold iH;rw[bu,el,ec]
    refine ⟨((s2.trans s34).trans s5),?_⟩;rw[take_snoc em];exact bV (Paired.imp' (λ_ _ z=>(z.same (sr.trans s34)).same s5) pr) (.cons h5 .nil)
  ·rintro ys H' hy ⟨s,pr⟩ l hl;have lm:(iH mv pt st pu).length=mv.length:=by unfold iH;rw[bo,cL];lia
   rw[aE (by lia)] at pr;exact k l _ (s1.none (s.none hl)) ((s1.trans s).trans (aI.new hl)) ⟨ys,aJ,Paired.imp' (λ_ _ z=>z.same (aI.new hl)) pr⟩
theorem xD:aU ["system","start","puts","states","row"] ["system","start","puts"] (aN AJ):=by walk_at "d"
theorem Dz (T:Txt K mg Z) (ptree:P.given.tree=none):cK P w K mg base fK 6 Z.Iu Z.Ib ["system","start","puts"] (As K Z.a_System):=by
 have Co:=zI (P:=P) (w:=w) (base:=base) T ptree;refine T.tL.F.ok xD (λvs H Q E h=>?_) (λcdv A outer s H vs Q E hr h=>?_)
 ·obtain ⟨x,s,p,H0,H1,mv,pt,lk,pus,st,rfl,_⟩:=h;rfl
 ·obtain ⟨x,s,p,H0,H1,mv,pt,lk,pus,st,rfl,S,D,F,Rs,ls,Gp,lp,wp,cf,k⟩:=h
  refine ⟨_,(ar (aS (i:=3) xD.nd rfl (Or.inl rfl) (dc (ae (du fP (by rfl) T.list PyProof.Rows.boot_list (ae (pv 1) ai)) ai)))
   (ar (dR PassesOwn.never rfl (cB (pv 2)) (aO (i:=4) xD.nd)
    (aA (ic (qH cx cD cC gQ (pv 3) (ae (KH (pv 0) T.cl_System T.qI Co (hr.mono (by decide)) T.tm .nil Dv (ae (aW bA (pv 3) (t9 nK ak)) (ae (pv 4) ai))) ai)))))
   (aA (aV (pv 3))))),?_⟩
  refine aQ (σ:=[some (.ref x),some (.ref s),some (.ref p),none,none]) rfl ?_;have d1:=D.n8;obtain ⟨ss,gs,qs⟩:=id Rs;obtain ⟨ps,gp,qp,_⟩:=id Gp;have lps:=qp.length;exists ⟨s,ss,rfl,.inl (bF.of gs),λc hc=>?_⟩;have sc:aI H (upd H c (.lst ss)):=aI.new hc;have Rc:cz K (upd H c (.lst ss)) c st:=⟨ss,aJ,Paired.imp' (λ_ _ z=>z.same sc) qs⟩;generalize upd H c (.lst ss)=Hc at sc Rc ⊢;exists cS λl Hl sl nl gl=>?_
  have hl0:=sc.none nl;have s0:=sc.trans sl;have cl:c≠l:=λz=>by obtain ⟨_,g,_⟩:=Rc;rw[z,nl] at g;cases g
  have pr0:Paired (yo K H l Hl) ((mZ mv pt st pus).take 1) [V.ref c]:=by
   have:(mZ mv pt st pus).take 1=[st]:=by
    have e:=take_snoc (oP (mv:=mv) (pt:=pt) (st:=st) (pus:=pus) (k:=0) (bC _));rw[e];rfl
   rw[this];exact .cons ⟨c,rfl,hc,cl,Rc.same sl⟩ .nil
  exists ⟨⟨_,bF.of (s0 _ _ gp)⟩,?_⟩;refine iX (K:=K) (a:=p) (xs:=ps) (λi σ' H'=>aI H H'/\(∃y ys,σ'=[some (.ref x),some (.ref s),some (.ref p),some (.ref l),y]/\H' l=some (.lst ys)/\Paired (yo K H l H') ((mZ mv pt st pus).take (i+1)) ys)) ⟨s0,_,_,rfl,gl,pr0⟩ (λi σ' H' _ ⟨e,_⟩=>bF.of (e _ _ gp)) ?_ ?_
  ·rintro i v σ' H' hv ⟨e,y,ys,rfl,g,pr⟩;obtain ⟨pu,epu,u,rfl,_,Ru⟩:=bT qp hv;have hi:i < pus.length:=(aK.mp epu).1;have mp:=ao epu;have ly:=pr.length;rw[cP,qh] at ly;have ec:=oP (mv:=mv) (pt:=pt) (st:=st) (pus:=pus) (k:=i) (by lia);have el:ys[i]?=some (ys[i]'(by lia)):=af (by lia)
   obtain ⟨vl,evl,q,hq1,hq2,hq3,Rq⟩:∃vl,ys[i]?=some vl/\∃q,vl=V.ref q/\H q=none/\q≠l/\cz K H' q (tV mv pt st pus i):=by
    obtain ⟨xs,ex,w⟩:=bT pr el;rw[lE (by lia),ec] at ex;cases ex;exact ⟨_,el,w⟩
   subst hq1
   have ey:∃zs,ys=zs++[V.ref q]:=by
    refine ⟨ys.take i,?_⟩;rw[<- take_snoc evl,aE (by lia)]
   obtain ⟨zs,rfl⟩:=ey;exists ⟨.inl ⟨rfl,_,bF.of g⟩,?_⟩;walk_at "w";obtain ⟨dx,_,_,_,gx,_⟩:=S.same e;refine ⟨x,dx,_,rfl,gx,LJ,?_⟩;exists cn (bF.of g) (oR _ _) ?_;exists ⟨x,q,u,H0,mv,pt,lk,_,pu,rfl,S.same e,D,F,Rq,Ru.same e,mM ls (by lia),wp pu mp,cf.both (by lia) mp,λr1 H2 n2 s2 R2=>?_⟩;have gn:=s2 _ _ g;exists gL gn (br (by lia)) ?_;refine ⟨LR (e.trans s2) hl0,_,_,rfl,aJ,?_⟩;rw[take_snoc (oP (by lia)),rf epu];have rl:r1≠l:=λz=>by rw[z,g] at n2;cases n2
   exact bV (Paired.imp' (λ_ _ z=>(yo.same z s2).upd gn) pr) (.cons ⟨r1,rfl,e.none n2,rl,R2.updL gn rl⟩ .nil)
  ·rintro σ' H' ⟨e,y,ys,rfl,g,pr⟩;walk_at "w";rw[aE (by rw[qh];lia)] at pr;exact k l H' hl0 e ⟨ys,g,Paired.imp' (λ_ _ z=>yo.rowF z) pr,AK pr⟩
theorem Cw:aU ["many"] ["many"] (aN o8):=by walk_at "d"
theorem og (T:Txt K mg Z) (ptree:P.given.tree=none):cK P w K mg base fK 1 Z.xc Z.wI ["many"] (Sk K):=by
 refine T.jm.F.ok Cw (λvs H Q E h=>?_) (λcdv A outer s H vs Q E hr h=>?_)
 ·obtain ⟨m,rfl,_⟩:=h;rfl
 ·obtain ⟨m,rfl,hm,k⟩:=h;refine ⟨_,(aA (aV (bX ["place"] [] [] (cE rfl T.range (ae (pv 0) ai)) (λ_=>(aO (i:=0) (show ND9 ["place"] by decide +kernel))) (λ_=>cw) (λ_=>(lM (v:=.ref Z.a_NOUGHT) rfl T.mg_NOUGHT rfl))))),?_⟩;refine aQ (σ:=[some (.int m)]) rfl ?_;exists ⟨by lia,by lia,?_⟩;refine jc (n:=m) (b6 K) (λ_=>0) (by lia) (λa b=>a.same b) ?_ ?_
  ·rintro i Ha NY NN hi sa k1;exists k1 _ _ (aI.refl _) ⟨_,rfl,T.sq_NOUGHT _⟩
  ·rintro ys H1 t ht s1 g1 pr _;exact k t H1 ht s1 ⟨ys,g1,by rw[<- Oe];exact pr⟩
theorem Ax:aU ["system","steps"] ["system","steps"] (aN nN):=by walk_at "d"
theorem AZ (T:Txt K mg Z) (ptree:P.given.tree=none):cK P w K mg base fK 2 Z.uI Z.uj ["system","steps"] (F3 K Z.a_System):=by
 have j8:=og (P:=P) (w:=w) (base:=base) T ptree;refine T.mo.F.ok Ax (λvs H Q E h=>?_) (λcdv A outer s H vs Q E hr h=>?_)
 ·obtain ⟨x,tt,H0,mv,pt,lk,rfl,_⟩:=h;rfl
 ·obtain ⟨x,tt,H0,mv,pt,lk,rfl,hT,S,D,k⟩:=h;refine ⟨_,(aA (aV (bX ["step"] ["system"] [0] (cE rfl T.range (ae (pv 1) ai)) (λ_=>(aO (i:=0) (show ND9 ["step","system"] by decide +kernel))) (λ_=>cw) (λ_=>(cH j8 hr T.jm (ae (KJ K (pv 1) rfl) ai)))))),?_⟩;refine aQ (σ:=[some (.ref x),some (.int tt)]) rfl ?_;obtain ⟨dx,a',b',c',gx,_,_,_,Ga,Gb,Gc⟩:=id S;have i4:=D.i4;exists ⟨by lia,by lia,?_⟩;refine jc (n:=tt) (cY K H) (λ(_:Nat)=>List.replicate pt.length (0:Rat)) (by lia) (λa b=>a.same b) ?_ ?_
  ·rintro i Hb NY NN hi sa k1;exists ⟨x,Z.a_System,dx,_,_,rfl,sa _ _ gx,T.cl_System,T.na_ins,Pl,?_⟩;exists ⟨pt.length,rfl,by lia,λr H2 nr s2 R2=>k1 _ _ s2 ⟨r,rfl,sa.none nr,R2⟩⟩
  rintro ys Hz t ht sz g pr nx;have e:(List.range tt).map (λ(_:Nat)=>List.replicate pt.length (0:Rat))=List.replicate tt (List.replicate pt.length 0):=by rw[Pc,bR]
  rw[e] at pr nx;exact k t Hz ht sz ⟨ys,g,pr,jD nx⟩
theorem Jg:aU ["system","start","goal","steps"] ["system","start","goal","steps"] (aN xM):=by walk_at "d"
theorem Jx (T:Txt K mg Z) (ptree:P.given.tree=none):cK P w K mg base fK 7 Z.D6 Z.DN ["system","start","goal","steps"] (F9 K Z.a_System):=by
 have ID:=ER (P:=P) (w:=w) (base:=base) T ptree;have Cm:=Dz (P:=P) (w:=w) (base:=base) T ptree;have CP:=AZ (P:=P) (w:=w) (base:=base) T ptree;refine T.vF.F.ok Jg (λvs H Q E h=>?_) (λcdv A outer s H vs Q E hr h=>?_)
 ·obtain ⟨x,s,g,tt,H0,mv,pt,lk,st,go,rfl,_⟩:=h;rfl
 ·obtain ⟨x,s,g,tt,H0,mv,pt,lk,st,go,rfl,hT,S,D,F,Rs,ls,Rg,lg,cf,sg,k⟩:=h;refine ⟨_,(aA (aV (cH ID hr T.pP (ae (pv 2) (ae (aW bA (cH Cm hr T.tL (ae (pv 0) (ae (pv 1) (ae (cH CP hr T.mo (ae (pv 0) (ae (pv 3) ai))) ai)))) (t9 nK ak)) ai))))),?_⟩;refine aQ (σ:=[some (.ref x),some (.ref s),some (.ref g),some (.int tt)]) rfl ?_;have d8:=D.n8;have i4:=D.i4;exists ⟨x,tt,H0,mv,pt,lk,rfl,by lia,S,D,λp1 H1 n1 s1 G1=>?_⟩;exists ⟨x,s,p1,H0,H,mv,pt,lk,_,st,rfl,S.same s1,D,F,Rs.same s1,ls,G1,by rw[bK];lia,λxs hx=>by rw[(hZ.mp hx).2,bK],cf,λp2 H2 n2 s2 G2=>?_⟩;obtain ⟨us,gu,qu,_⟩:=id G2;have lu:=qu.length;rw[qh,bK] at lu;have ec:=oP (mv:=mv) (pt:=pt) (st:=st) (pus:=List.replicate tt (List.replicate pt.length 0)) (k:=tt) (by rw[bK];exact au _);have el:us[tt]?=some (us[tt]'(by lia)):=af (by lia)
  obtain ⟨q,eq,Rq⟩:∃q,us[tt]?=some (V.ref q)/\cz K H2 q (d6 mv tt st):=by
   obtain ⟨xs,ex,q,e,_,w⟩:=bT qu el;rw[ec] at ex;cases ex;rw[Nh D ls] at w;exact ⟨q,by rw[el,e],w⟩
  have ey:∃zs,us=zs++[V.ref q]:=by
   refine ⟨us.take tt,?_⟩;rw[<- take_snoc eq,aE (by lia)]
  obtain ⟨zs,rfl⟩:=ey
  have szp:∀y∈d6 mv tt st,kN y:=λy hy=>by
   have:=(cf.state (k:=tt) (by rw[bK];exact au _)).szn (x:=y);rw[Nh D ls] at this;exact this hy
  exists cn (bF.of gu) (oR _ _) ?_;exists ⟨g,q,go,_,rfl,(Rg.same s1).same s2,Rq,by rw[lg,jO ls],by lia,sg,szp,λr H3 n3 s3 R3=>k r H3 ((s1.trans s2).none n3) ((s1.trans s2).trans s3) R3⟩
theorem tX:aU ["lines","begin","place","at"] ["lines","begin","place"] (aN ph):=by walk_at "d"
theorem CD (T:Txt K mg Z) (ptree:P.given.tree=none):cK P w K mg base fK 1 Z.xh Z.wL ["lines","begin","place"] Dq:=by
 refine T.oo.F.ok tX (λvs H Q E h=>?_) (λcdv A outer s H vs Q E hr h=>?_)
 ·obtain ⟨l,p,ls,b,c,rfl,_⟩:=h;rfl
 ·obtain ⟨l,p,ls,b,c,rfl,G,l1000,b1000,hc,k1,k2⟩:=h
  refine ⟨_,(ar (dR PassesOwn.never rfl (LZ rfl T.range (ae (pv 1) (ae (bL be (by rfl) T.len a7 (ae (pv 0) ai)) ai))) (aO (i:=3) tX.nd)
    (aA (dh (bw Dx (aW bA (aW bA (pv 0) (pv 3)) (pv 2)) ak (bM _)) (aA (aV (pv 3))) b8)))
   (aA (aV EK))),?_⟩
  refine aQ (σ:=[some (.ref p),some (.int b),some (.int c),none]) rfl ?_;obtain ⟨_,xs,gx,qx⟩:=id G;have lx:=qx.length;exists ⟨_,_,rfl,.inl (bF.of gx),?_⟩;rw[<- lx];exists ⟨⟨by lia,by lia,by lia,by lia⟩,?_⟩;refine DG (lo:=(b:Int)) (n:=((ls.length:Int) - (b:Int)).toNat) (λi σ' H'=>H'=H/\(∃y,σ'=[some (.ref p),some (.int b),some (.int c),y])/\∀s,b<=s->s < b+i->fF ls s c=0) ⟨rfl,⟨_,rfl⟩,λs h1 h2=>absurd h2 (by lia)⟩ ?_ ?_
  ·rintro i σ' H' hi ⟨rfl,⟨y,rfl⟩,hz⟩;rw[show ((b:Int)+(i:Int))=((b+i:Nat):Int) by lia];obtain ⟨zs,v,ez,ev,mz,q,rfl,_,gq⟩:=dF qx (i:=b+i) (by lia);exists cn (bF.of gx) (dA ev) ?_;exists cn (bF.of gq) (Af (hc zs mz)) ?_;walk_at "w";have ef:=M5 (c:=c) ez;by_cases e:zs.getD c 0=0
   ·rw[decide_eq_true e];exists ⟨rfl,⟨_,rfl⟩,λs h1 h2=>?_⟩;by_cases e2:s=b+i
    ·rw[e2,ef,e];rfl
    ·exact hz s h1 (by lia)
   ·rw[decide_eq_false e];exists k1 (b+i) (by lia) (by lia) (by rw[ef];exact VD.mpr e)
  ·rintro σ' H' ⟨rfl,⟨y,rfl⟩,hz⟩;exists k2 λt h1 h2=>hz t h1 (by lia)
theorem l9:aU ["lines","at","place","before","used","by","swept"] ["lines","at","place","before"] (aN xO):=by walk_at "d"
theorem Jy (T:Txt K mg Z) (ptree:P.given.tree=none):cK P w K mg base fK 1 Z.D7 Z.DO ["lines","at","place","before"] Ds:=by
 refine T.vG.F.ok l9 (λvs H Q E h=>?_) (λcdv A outer s H vs Q E hr h=>?_)
 ·obtain ⟨l,p,ls,kk,c,n,b,rfl,_⟩:=h;rfl
 ·obtain ⟨l,p,ls,kk,c,n,b,rfl,hl,G,l1000,hk,hw,n1000,hc,b0,sb,hs,k⟩:=h
  refine ⟨_,(ar (aS (i:=4) l9.nd rfl (Or.inr rfl) (aW bA (pv 0) (pv 1)))
   (ar (aS (i:=5) l9.nd rfl (Or.inr rfl) (aW bA (pv 4) (pv 2)))
   (ar (mQ 6 ["line"] ["used","by","place","before"] [4,5,2,3] l9.nd rfl rfl (cB (pv 0)) (λ_=>(aO (i:=0) (show ND9 ["line","used","by","place","before"] by decide +kernel) rfl (Or.inr rfl) (Or.inl rfl))) (λ_=>cw) (λ_=>(bX ["mine","yours"] ["by","line","place","before"] [2,0,3,4] (NP K rfl T.zip (ae (pv 0) (ae (pv 1) ai))) (λ_=>(kz K 2 (b9 (aO (i:=0) (show ND9 ["mine","yours","by","line","place","before"] by decide +kernel)) (b9 (aO (i:=1) (show ND9 ["mine","yours","by","line","place","before"] by decide +kernel)) fL)))) (λ_=>cw) (λ_=>(bI (iQ rfl l9 rfl rfl rfl ptree (sY hr)) (bI kX (bI dg (pv 2) (pv 0)) (bI dg (aW (oM K (by rfl)) (pv 3) (pv 4)) (pv 1))) (pv 5))))))
   (ar (fB (pv 4) (gP (pv 6) (pv 1) set_list))
   (aA (aV (pv 6))))))),?_⟩
  refine aQ (σ:=[some (.ref p),some (.int kk),some (.int c),some (.int b),none,none,none]) rfl ?_;obtain ⟨pl,xs,gx,qx⟩:=id G;have lx:=qx.length;obtain ⟨zk,vk,ek,evk,mk,qk,rfl,qkl,gk⟩:=dF qx hk;have wk:=hw zk mk;have ek':ls.getD kk []=zk:=by rw[aa,ek];rfl
  exists cn (bF.of gx) (dA evk) ?_;exists cn (bF.of gk) (Af (by lia)) ?_;exists ⟨⟨_,bF.of gx⟩,?_⟩;refine fJ (K:=K) (xs:=xs) (λi ys H'=>aI H H'/\Paired (Ly l H') ((ls.take i).map λzs=>List.zipWith (λx y=>(zk.getD c 0*x - zs.getD c 0*y).fdiv b) zs zk) ys) (aT (br (by lia))) ⟨aI.refl _,.nil⟩ (λi ys H' _ ⟨s,_⟩=>bF.of (s _ _ gx)) ?_ ?_
  ·rintro i v ys0 H' hx hlen ⟨s',pr⟩;obtain ⟨zs,ec,q,rfl,ql,gq⟩:=bT qx hx;have mz:=ao ec;have wz:=hw zs mz;have gq':=s' _ _ gq;have gk':=s' _ _ gk;exists ⟨⟨_,bF.of gq'⟩,⟨_,bF.of gk'⟩,?_⟩;refine mE (K:=K) (xs:=zs.map V.int) (ws:=zk.map V.int) (λj ys H2=>aI H' H2/\ys=((List.zipWith (λx y=>(zk.getD c 0*x - zs.getD c 0*y).fdiv b) zs zk).take j).map V.int) (aT (br (by rw[aj];lia))) (by rw[aj,aj];lia) ⟨aI.refl _,rfl⟩ (λj ys H2 _ ⟨s2,_⟩=>⟨bF.of (s2 _ _ gq'),bF.of (s2 _ _ gk')⟩) ?_ ?_
   ·rintro j v1 v2 ys H2 r h1 h2 hy ⟨s2,rfl⟩ hr
    obtain ⟨x,ex,rfl⟩:∃x,zs[j]?=some x/\V.int x=v1:=by
     rw[aB] at h1;cases e:zs[j]? with
     | none=>rw[e] at h1;cases h1
     | some x=>rw[e] at h1;exact ⟨x,rfl,cv h1⟩
    obtain ⟨y,ey,rfl⟩:∃y,zk[j]?=some y/\V.int y=v2:=by
     rw[aB] at h2;cases e:zk[j]? with
     | none=>rw[e] at h2;cases h2
     | some x=>rw[e] at h2;exact ⟨x,rfl,cv h2⟩
    have sr:aI H2 (upd H2 r (.tup [.int x,.int y])):=aI.new hr;have gr:(upd H2 r (.tup [.int x,.int y])) r=some (.tup [.int x,.int y]):=aJ;generalize upd H2 r (.tup [.int x,.int y])=H3 at sr gr ⊢;have gq3:=sr _ _ (s2 _ _ gq');have sx:=hs zs mz x (ao ex);have sy:=hs zk mk y (ao ey);have s1:=hs zk mk _ (getD_in (e:=0) (show c < zk.length by lia));have s3:=hs zs mz _ (getD_in (e:=0) (show c < zs.length by lia));exists fY (show iw _ _ from .inr ⟨_,_,s1,sx,by decide⟩) ?_;exists cn (bF.of gq3) (Af (by lia)) ?_;exists fY (show iw _ _ from .inr ⟨_,_,s3,sy,by decide⟩) ?_;exists fY (show nv _ _ from ⟨b0,sb⟩) ?_;have ez:(List.zipWith (λx y=>(zk.getD c 0*x - zs.getD c 0*y).fdiv b) zs zk)[j]?=some ((zk.getD c 0*x - zs.getD c 0*y).fdiv b):=by rw[bu,ex,ey]
    exact ⟨s2.trans sr,by rw[take_snoc ez];simp⟩
   ·rintro ys H2 hy ⟨s2,rfl⟩ r hr;have sn:aI H2 (upd H2 r (.lst (((List.zipWith (λx y=>(zk.getD c 0*x - zs.getD c 0*y).fdiv b) zs zk).take (zs.map V.int).length).map V.int))):=aI.new hr;refine ⟨(s'.trans s2).trans sn,?_⟩;rw[take_snoc ec,b7];refine bV (Paired.imp' (λ_ _ z=>(Ly.same z s2).same sn) pr) (.cons ⟨r,rfl,ne_old (λz=>hl (s'.none (s2.none z))) hr,?_⟩ .nil);rw[aJ,aE (by rw[bo,aj];lia)]
  ·rintro ys H1 hy ⟨s1,pr⟩ r hr;have sn:aI H1 (upd H1 r (.lst ys)):=aI.new hr;have gn:(upd H1 r (.lst ys)) r=some (.lst ys):=aJ;have ly:=pr.length;rw[aj,cP] at ly;generalize upd H1 r (.lst ys)=H2 at sn gn ⊢;exists eN gn (fh (by lia)) rfl ?_;have s2:aI H1 (upd H2 r (.lst (ys.set kk (.ref qk)))):=sn.after hr;exists k r _ (s1.none hr) (s1.trans s2) ⟨ne_old (λz=>hl (s1.none z)) hr,_,aJ,?_⟩;unfold Ie;rw[ek'];rw[aE (by lia)] at pr;exact jx (Paired.imp' (λ_ _ z=>Ly.same z s2) pr) kk ⟨qk,rfl,qkl,(s1.trans s2) _ _ gk⟩
theorem tY:aU ["lines","at","to","swapped"] ["lines","at","to"] (aN pk):=by walk_at "d"
theorem CF (T:Txt K mg Z) (ptree:P.given.tree=none):cK P w K mg base fK 1 Z.xj Z.wM ["lines","at","to"] yA:=by
 refine T.ot.F.ok tY (λvs H Q E h=>?_) (λcdv A outer s H vs Q E hr h=>?_)
 ·obtain ⟨l,p,ls,t,kk,rfl,_⟩:=h;rfl
 ·obtain ⟨l,p,ls,t,kk,rfl,hl,G,l1000,ht,hk,k⟩:=h
  refine ⟨_,(ar (aS (i:=3) tY.nd rfl (Or.inl rfl) (du fP (by rfl) T.list PyProof.Rows.boot_list (ae (pv 0) ai)))
   (ar (fB (aW bA (pv 0) (pv 1)) (gP (pv 3) (pv 2) set_list))
   (ar (fB (aW bA (pv 0) (pv 2)) (gP (pv 3) (pv 1) set_list))
   (aA (aV (pv 3)))))),?_⟩
  refine aQ (σ:=[some (.ref p),some (.int t),some (.int kk),none]) rfl ?_;obtain ⟨pl,xs,gx,qx⟩:=id G;have lx:=qx.length;obtain ⟨zt,vt,et,evt,_,Ft⟩:=dF qx ht;obtain ⟨zk,vk,ek,evk,_,Fk⟩:=dF qx hk;exists ⟨p,xs,rfl,.inl (bF.of gx),λc hc=>?_⟩;have sc:aI H (upd H c (.lst xs)):=aI.new hc;have gc:(upd H c (.lst xs)) c=some (.lst xs):=aJ;generalize upd H c (.lst xs)=Hc at sc gc ⊢;exists cn (bF.of (sc _ _ gx)) (dA evt) ?_;exists eN gc (fh (by lia)) rfl ?_;have s1:aI H (upd Hc c (.lst (xs.set kk vt))):=sc.after hc;have g1:(upd Hc c (.lst (xs.set kk vt))) c=some (.lst (xs.set kk vt)):=aJ;generalize upd Hc c (.lst (xs.set kk vt))=H1 at s1 g1 ⊢;exists cn (bF.of (s1 _ _ gx)) (dA evk) ?_;exists eN g1 (fh (by rw[dM];lia)) rfl ?_;have s2:aI H (upd H1 c (.lst ((xs.set kk vt).set t vk))):=s1.after hc;exists k c _ hc s2 ⟨ne_old hl hc,_,aJ,?_⟩;have et':ls.getD t []=zt:=by rw[aa,et];rfl
  have ek':ls.getD kk []=zk:=by rw[aa,ek];rfl
  unfold oZ;rw[et',ek'];exact jx (jx (Paired.imp' (λ_ _ z=>Ly.same z s2) qx) kk (Ly.same Ft s2)) t (Ly.same Fk s2)
theorem jJ:aU ["rows","wide","lines","leads","before","place","many","at"] ["rows","wide"] (aN EE):=by walk_at "d"
theorem GO (T:Txt K mg Z) (ptree:P.given.tree=none):cK P w K mg base fK 4 Z.Lr Z.Lh ["rows","wide"] (C5 K):=by
 have iY:=pL (P:=P) (w:=w) (base:=base) T ptree;have eS:=ko (P:=P) (w:=w) (base:=base) T ptree;have Fv:=CD (P:=P) (w:=w) (base:=base) T ptree;have MF:=Jy (P:=P) (w:=w) (base:=base) T ptree;have Fw:=CF (P:=P) (w:=w) (base:=base) T ptree;refine T.we.F.ok jJ (λvs H Q E h=>?_) (λcdv A outer s H vs Q E hr h=>?_)
 ·obtain ⟨p,n,w,H0,rows,rfl,_⟩:=h;rfl
 ·obtain ⟨p,n,w,H0,rows,rfl,G,r100,n100,hw,F,k⟩:=h
  refine ⟨_,(ar (mQ 2 ["row"] [] [] jJ.nd rfl rfl (cB (pv 0)) (λ_=>(aO (i:=0) (show ND9 ["row"] by decide +kernel))) (λ_=>cw) (λ_=>(cH iY hr T.ie (ae (pv 0) (ae (cH eS hr T.d7 (ae (pv 0) ai)) ai)))))
   (ar (aS (i:=3) jJ.nd rfl (Or.inl rfl) (dc ai))
   (ar (aS (i:=4) jJ.nd rfl (Or.inl rfl) ak)
   (ar (dR PassesOwn.never rfl (cE rfl T.range (ae (pv 1) ai)) (aO (i:=5) jJ.nd)
    (ar (aS (i:=6) jJ.nd rfl (Or.inl rfl) (bL be (by rfl) T.len a7 (ae (pv 3) ai)))
   (ar (aS (i:=7) jJ.nd rfl (Or.inl rfl) (cH Fv hr T.oo (ae (pv 2) (ae (pv 6) (ae (pv 5) ai)))))
   (aA (dh (bw KN (pv 7) EK (bM _)) (ar (aS (i:=2) jJ.nd rfl (Or.inl rfl) (cH MF hr T.vG (ae (cH Fw hr T.ot (ae (pv 2) (ae (pv 7) (ae (pv 6) ai)))) (ae (pv 6) (ae (pv 5) (ae (pv 4) ai))))))
   (ar (aS (i:=4) jJ.nd rfl (Or.inl rfl) (aW bA (aW bA (pv 2) (pv 6)) (pv 5)))
   (aA (ic (qH cx cD cC gQ (pv 3) (ae (pv 5) ai)))))) b8)))))
   (aA (aV (cW (ae (GI Ku (pv 2) KE (KD (bL be (by rfl) T.len a7 (ae (pv 3) ai)))) (ae (pv 3) ai))))))))),?_⟩
  refine aQ (σ:=[some (.ref p),some (.int n),none,none,none,none,none,none]) rfl ?_;obtain ⟨xs,gx,qx,_⟩:=id G;obtain ⟨W,hW,W2,ent⟩:=F.ent;obtain ⟨_,_,_,_,_,_,_,_,r15,r89⟩:=id F;exists ⟨⟨_,bF.of gx⟩,?_⟩;refine dm (K:=K) (as:=rows) (F:=cY K H0) (λ(H:Hp) (zs:List Int) (v:V)=>∃q,v=V.ref q/\H q=some (.lst (zs.map V.int))) kK gx qx (by lia) (λa b=>a.same b) (λ⟨q,a,b⟩ s=>⟨q,a,s _ _ b⟩) ?_ ?_
  ·rintro i qs v H' NY NN ec s' ⟨u,rfl,_,R⟩ k1;have mx:=ao ec;obtain ⟨M,hM⟩:=F.rowM mx;obtain ⟨b1,sb⟩:=hM.bot;have lq:(qs.map nm).length<=1000:=by rw[aj,hw qs mx];lia
   exists ⟨u,_,M,rfl,R.rowK,lq,hM,λH2 s2=>?_⟩;exists ⟨u,_,M,_,rfl,(R.same s2).rowK,lq,hM,b1,sb,λr H3 n3 s3 g3=>k1 _ _ (s2.trans s3) ⟨r,rfl,g3⟩⟩
  rintro ys H1 lp0 hlp s1 g1 pr1 nx1;exists cS λqp H2 s2 nq gq=>?_
  have G2:tu qp H2 lp0 (rows.map kK):=⟨(λz=>by rw[z,nq] at g1;cases g1),ys,s2 _ _ g1,Paired.imp' (λ_ _ ⟨q,a,b⟩=>⟨q,a,(λz=>by rw[z,nq] at b;cases b),s2 _ _ b⟩) pr1⟩;have hq0:H qp=none:=s1.none nq;have s02:=s1.trans s2;have hm:(rows.map kK).length=rows.length:=aj ..;clear g1 pr1 nx1;exists ⟨by lia,by lia,?_⟩;refine d9 (n:=n) (λP σ' H'=>aI H H'/\∃lp ls ps d y1 y2 y3,σ'=[some (.ref p),some (.int n),some (.ref lp),some (.ref qp),some (.int d),y1,y2,y3]/\H' qp=some (.lst (eh ps))/\tu qp H' lp ls/\Ea (rows.map kK) n P ls ps d) ⟨s02,lp0,rows.map kK,[],1,_,_,_,rfl,gq,G2,Ea.start λzs hz=>by obtain ⟨x,hx,rfl⟩:=az.mp hz;rw[vO];exact hw x hx⟩ ?_ ?_
  ·rintro P σ' H' hP ⟨s',lp,ls,ps,d,y1,y2,y3,rfl,gq',G',I⟩;have hl:=I.len;have kP:=I.el.kP;have km:=I.el.km;have lps:(eh ps).length=ps.length:=aj ..;have hqp:H' qp≠none:=by rw[gq'];exact λz=>nomatch z
   obtain ⟨z1,z2⟩:=I.sz (r:=min rows.length n) hW ent (by lia) (by rw[hm];exact au _) r15;have big:(16*W)^min rows.length n < 2^449950:=bp (Jq W2) (df (by decide) (by lia));exists ⟨_,_,rfl,.inl (bF.of gq'),?_⟩;rw[lps];exists ⟨qp,lp,ls,ps.length,P,rfl,G',by lia,by lia,λzs hz=>by rw[I.wide zs hz];exact hP,λt h1 h2 h3=>?_,λhz=>?_⟩
   ·exists ⟨rfl,_,rfl,?_⟩;rw[show decide (V.int (t:Int)=V.non)=false from decide_eq_false (λz=>nomatch z)];exists ⟨qp,lp,ls,t,ps.length,rfl,hqp,G',by lia,h2,by lia,λl1 Ha na sa Ga=>?_⟩;exists ⟨qp,l1,_,ps.length,P,n,d,rfl,λz=>hqp (sa.none z),Ga,by rw[xv];lia,by rw[xv];lia,Kf I.wide (by lia) h2,by lia,hP,I.d0,bp z1 big,λzs hz z hz'=>?_,λl2 Hb nb sb Gb=>?_⟩
    ·unfold oZ at hz;have key:∀ys,ys∈ls->∀z∈ys,Sz 449950 z:=λys hy z hz=>bp (z2 ys hy z hz) big
     rcases cy hz with h | h
     ·rcases cy h with h | h
      ·exact key zs h z hz'
      ·rw[h] at hz';exact key _ (getD_in h2) z hz'
     ·rw[h] at hz';exact key _ (getD_in (by lia)) z hz'
    have sab:=sa.trans sb;have I2:=I.step hW ent h1 h2 h3;have hk2:ps.length < (Ie (oZ ls ps.length t) ps.length P d).length:=by rw[OS,xv];lia
    obtain ⟨n2,xs2,gx2,qx2⟩:=id Gb;obtain ⟨zk,vk,ek,evk,mk,qk,rfl,_,gk⟩:=dF qx2 hk2;have wk:=I2.wide zk mk;exists cn (bF.of gx2) (dA evk) ?_;exists cn (bF.of gk) (Af (by lia)) ?_;have gqb:=sab _ _ gq';exists ⟨.inl ⟨rfl,_,bF.of gqb⟩,?_⟩;exists gL gqb (br (by lia)) ?_;refine ⟨(s'.trans sab).after hq0,l2,_,ps++[P],_,_,_,_,rfl,?_,Gb.upd,?_⟩
    ·rw[aJ];unfold eh;rw[b7];rfl
    ·have e:(Ie (oZ ls ps.length t) ps.length P d).getD ps.length []=zk:=by rw[aa,ek];rfl
     rw[e] at I2;exact I2
   ·exists ⟨rfl,_,rfl,?_⟩;rw[show decide (V.non=V.non)=true from decide_eq_true rfl];exists ⟨s',lp,ls,ps,d,_,_,_,rfl,gq',G',I.skip hz⟩
  rintro σ' H' ⟨s',lp,ls,ps,d,y1,y2,y3,rfl,gq',G',I⟩;obtain ⟨R,hR⟩:=I.done hw F;have lps:(eh ps).length=ps.length:=aj ..;obtain ⟨nl,xs',gx',qx'⟩:=id G';exists ⟨_,_,rfl,.inl (bF.of gq'),?_⟩;rw[lps];exists Sx (bF.of gx') λsl H3 s3 n3 g3=>?_
  rw[OP] at g3;exists cu λt H4 s4 g4=>?_
  have s34:=s3.trans s4;exact k t sl qp R ps d _ H4 g4 (s34 _ _ gq') ⟨(λz=>by rw[z,gq'] at n3;cases n3),_,s4 _ _ g3,Paired.imp' (λ_ _ z=>Ly.same z s34) (yB qx' ps.length)⟩ (s'.trans s34) hR
theorem oH:aU ["rows","wide","due","found","answer","line","lead"] ["rows","wide","due"] (aN AD):=by walk_at "d"
theorem L6 (T:Txt K mg Z) (ptree:P.given.tree=none):cK P w K mg base fK 5 Z.Im Z.HW ["rows","wide","due"] (An K):=by
 have Fq:=GO (P:=P) (w:=w) (base:=base) T ptree;have j8:=og (P:=P) (w:=w) (base:=base) T ptree;have gU:=kj (P:=P) (w:=w) (base:=base) T ptree;refine T.tK.F.ok oH (λvs H Q E h=>?_) (λcdv A outer s H vs Q E hr h=>?_)
 ·obtain ⟨p,q,n,w,H0,rows,due,rfl,_⟩:=h;rfl
 ·obtain ⟨p,q,n,w,H0,rows,due,rfl,G,Rd,hd,m99,n99,hw,F,k1,k2⟩:=h
  refine ⟨_,(ar (aS (i:=3) oH.nd rfl (Or.inl rfl) (cH Fq hr T.we (ae (bX ["row","wanted"] [] [] (lK rfl T.zip (ae (pv 0) (ae (pv 2) ai))) (λ_=>(kz K 2 (b9 (aO (i:=0) (show ND9 ["row","wanted"] by decide +kernel)) (b9 (aO (i:=1) (show ND9 ["row","wanted"] by decide +kernel)) fL)))) (λ_=>cw) (λ_=>(bI jP (pv 0) (dc (ae (pv 1) ai))))) (ae (bI eQ (pv 1) ak) ai))))
   (ar (dh (bw L5 (pv 1) (aW bU (pv 3) ak) (by with_unfolding_all rfl)) (aA (aV EK)) b8)
   (ar (aS (i:=4) oH.nd rfl (Or.inl rfl) (cH j8 hr T.jm (ae (pv 1) ai)))
   (ar (dR PassesOwn.never rfl (lK rfl T.zip (ae (aW bU (pv 3) ak) (ae (aW bU (pv 3) ak) ai))) (rX rfl (b9 (aO (i:=5) oH.nd) (b9 (aO (i:=6) oH.nd) fL)))
    (aA (fB (cH gU hr T.ja (ae (aW bA (pv 5) (pv 1)) (ae (aW bA (pv 5) (pv 6)) ai))) (gP (pv 4) (pv 6) set_list))))
   (aA (aV (pv 4))))))),?_⟩
  refine aQ (σ:=[some (.ref p),some (.int n),some (.ref q),none,none,none,none]) rfl ?_;obtain ⟨xs,gx,qx,_⟩:=id G;obtain ⟨ds,gd,qd⟩:=id Rd;have lx:=qx.length;have ld:=qd.length;have lj:=sN hd;exists ⟨⟨_,bF.of gx⟩,⟨_,bF.of gd⟩,?_⟩;refine mE (K:=K) (xs:=xs) (ws:=ds) (λi ys H'=>aI H H'/\Paired (cY K H H') ((fX rows due).take i) ys) (aT (br (by lia))) (by lia) ⟨aI.refl _,.nil⟩ (λi ys H' _ ⟨s,_⟩=>⟨bF.of (s _ _ gx),bF.of (s _ _ gd)⟩) ?_ ?_
  ·rintro i v1 v2 ys H' r h1 h2 hy ⟨s,pr⟩ hr;obtain ⟨row,er,u,rfl,_,Ru⟩:=bT qx h1;obtain ⟨d,ed,nd⟩:=bT qd h2;have wr:=hw row (ao er);have sr:aI H' (upd H' r (.tup [.ref u,v2])):=aI.new hr;have gr:(upd H' r (.tup [.ref u,v2])) r=some (.tup [.ref u,v2]):=aJ;generalize upd H' r (.tup [.ref u,v2])=H2 at sr gr ⊢;have s2:=s.trans sr;exists cS λl1 H3 s3 n3 g3=>?_
   have s23:=s2.trans s3;obtain ⟨zs,gz,qz⟩:=Ru.same s23;have lz:=qz.length;exists kW gz g3 (aT (br (by rw[bJ];lia))) λl2 H4 s4 n4 g4=>?_
   refine ⟨s23.trans s4,?_⟩;rw[take_snoc (Rv er ed)];exact bV (Paired.imp' (λ_ _ z=>cY.same z ((sr.trans s3).trans s4)) pr) (.cons ⟨l2,rfl,s23.none n4,_,g4,Paired.imp' (λ_ _ z=>b6.same z s4) (bV qz (.cons (nd.same s23) .nil))⟩ .nil)
  rintro ys H1 hy ⟨s1,pr⟩ l hl;have sn:aI H1 (upd H1 l (.lst ys)):=aI.new hl;have gn:(upd H1 l (.lst ys)) l=some (.lst ys):=aJ;rw[aE (by lia)] at pr;generalize upd H1 l (.lst ys)=H2 at sn gn ⊢;have GJ:bB K H H2 l (fX rows due):=DF pr sn hl gn;have s02:=s1.trans sn;walk_at "w";rw[show ((n:Int)+1)=((n+1:Nat):Int) by lia];refine ⟨l,n+1,w,H,_,rfl,GJ,by lia,by lia,Qz hw,F,λt lp qp R ps d ls H3 gt gq GZ s3 S=>?_⟩;have s03:=s02.trans s3;have pn:=S.rr.le;exists ⟨qp,eh ps,rfl,.inl (bF.of gq),rfl,DB,?_⟩;rw[Hu];by_cases hn:n∈ps
  ·rw[decide_eq_true hn,show (if false=true then !true else true)=true from rfl];exists k2 R ps H3 S.rr hn s03
  ·rw[decide_eq_false hn,show (if false=true then !false else false)=false from rfl];obtain ⟨lR,wR,rr⟩:=id S.rr;obtain ⟨_,zs,gz,qz⟩:=id GZ;have lz:=qz.length;have hl':=S.len
   have low:∀j,j < ps.length->ps.getD j 0 < n:=λj hj=>by
    have:=rr.low j hj;have:ps.getD j 0≠n:=λz=>hn (by rw[<- z];exact getD_in hj)
    lia
   obtain ⟨_,_,_,_,_,_,_,_,_,e89⟩:=id F;rw[lj] at e89;have dsz:Sz 449950 d:=bp S.dsz (df (by decide) (by rw[lj];lia));have lps:=wd (ps:=ps);exists ⟨n,rfl,by lia,λan H4 na s4 R4=>?_⟩;rw[<- Pw (R:=R) (ps:=ps)] at R4;obtain ⟨vs0,g0,q0⟩:=id R4;have gt4:=s4 _ _ gt;exists ⟨⟨_,bF.of (s4 _ _ gz)⟩,⟨_,bF.of (s4 _ _ gq)⟩,?_⟩;refine K8 (K:=K) (xs:=zs) (ws:=eh ps) (λj σ' H'=>aI H3 H'/\∃y1 y2 vs,σ'=[some (.ref p),some (.int n),some (.ref q),some (.ref t),some (.ref an),y1,y2]/\H' an=some (.lst vs)/\Paired (b6 K H') (vR R ps n j) vs) (by lia) ⟨s4,_,_,vs0,rfl,g0,q0⟩ (λj σ' H' _ ⟨e,_⟩=>⟨bF.of (e _ _ gz),bF.of (e _ _ gq)⟩) ?_ ?_
   ·rintro j v1 v2 σ' H' r h1 h2 ⟨s',y1,y2,vs,rfl,ga,qa⟩ hr;obtain ⟨line,el,u,rfl,_,gu⟩:=bT qz h1;have wl:=S.wide line (ao el);obtain ⟨pj,ej,rfl⟩:=E3 h2;have hj:j < ps.length:=(aK.mp ej).1;have ejD:ps.getD j 0=pj:=by rw[aa,ej];rfl
    have pjn:=low j hj;rw[ejD] at pjn;have v0:=S.val j n;rw[M5 el] at v0
    have ed:line.getD pj 0=d:=by
     have h:=S.val j pj;rw[M5 el] at h;have u:=rr.unit j hj j hj;rw[if_pos rfl,ejD] at u;rw[u,Ed] at h;exact dI.mp h
    have sr:aI H' (upd H' r (.tup [.ref u,.int pj])):=aI.new hr;have gr:(upd H' r (.tup [.ref u,.int pj])) r=some (.tup [.ref u,.int pj]):=aJ;generalize upd H' r (.tup [.ref u,.int pj])=H5 at sr gr ⊢;have gu5:=(s'.trans sr) _ _ gu;exists cn (bF.of gu5) (Af (by lia)) ?_;exists cn (bF.of gu5) (Af (by lia)) ?_;rw[ed];exists ⟨_,d,rfl,S.d0,dsz,λr6 H6 s6 g6=>?_⟩;have d0:(d:Rat)≠0:=λz=>S.d0 (uy z)
    have n6:b6 K H6 (cU R j n) (.ref r6):=by
     refine b6.mk g6 ?_;rcases Int.lt_or_lt_of_ne S.d0 with hd' | hd'
     ·rw[if_pos hd',if_pos hd'];refine mX (by lia) ?_;rw[eY,eY,v0];grind
     ·rw[if_neg (by lia),if_neg (by lia)];refine mX hd' ?_;rw[v0];grind
    have ga6:=(sr.trans s6) _ _ ga;have la:=qa.length;rw[l5] at la;exists eN ga6 (fh (by lia)) rfl ?_;refine ⟨((s'.trans sr).trans s6).after na,_,_,_,rfl,aJ,?_⟩;rw[<- Px S.rr hj,ejD];exact jx (Paired.imp' (λ_ _ z=>(b6.same z (sr.trans s6)).updL ga6) qa) pj (n6.updL ga6)
   ·rintro σ' H' ⟨s',y1,y2,vs,rfl,ga,qa⟩;rw[show zs.length=ps.length by lia] at qa;exists k1 an R ps d.natAbs H' S.rr hn (s03.none na) (s03.trans s') ⟨vs,ga,qa⟩ (by have:=S.d0;lia) (by rw[<- lj];exact S.dsz) ?_;rw[<- lj];exact Ut (by have:=S.d0;lia) S.tp S.rr
theorem Av:aU ["rows","wide","due","answer","columns"] ["rows","wide","due"] (aN EG):=by walk_at "d"
theorem N2 (T:Txt K mg Z) (ptree:P.given.tree=none):cK P w K mg base fK 6 Z.Ls Z.Li ["rows","wide","due"] (C7 K):=by
 have IC:=L6 (P:=P) (w:=w) (base:=base) T ptree;have eI:=iS (P:=P) (w:=w) (base:=base) T ptree;have j8:=og (P:=P) (w:=w) (base:=base) T ptree;refine T.Bf.F.ok Av (λvs H Q E h=>?_) (λcdv A outer s H vs Q E hr h=>?_)
 ·obtain ⟨p,q,n,w,H0,rows,due,rfl,_⟩:=h;rfl
 ·obtain ⟨p,q,n,w,H0,rows,due,rfl,G,Rd,hd,m90,n90,hw,F,F1,k1⟩:=h
  refine ⟨_,(ar (aS (i:=3) Av.nd rfl (Or.inl rfl) (cH IC hr T.tK (ae (pv 0) (ae (pv 1) (ae (pv 2) ai)))))
   (ar (dh (bw KN (pv 3) EK (bM _)) (aA (aV (cW (ae AR (ae (pv 3) ai))))) b8)
   (ar (aS (i:=4) Av.nd rfl (Or.inl rfl) (cH eI hr T.fD (ae (pv 0) (ae (pv 1) ai))))
   (aA (aV (cW (ae AR (ae (cH IC hr T.tK (ae (bI jP (pv 4) (dc (ae (pv 2) ai))) (ae (bL be (by rfl) T.len a7 (ae (pv 0) ai)) (ae (bI jP (cH j8 hr T.jm (ae (pv 1) ai)) (dc (ae (lM (v:=.ref Z.a_ONE) rfl T.mg_ONE rfl) ai))) ai)))) ai)))))))),?_⟩
  refine aQ (σ:=[some (.ref p),some (.int n),some (.ref q),none,none]) rfl ?_;exists ⟨p,q,n,w,H0,rows,due,rfl,G,Rd,hd,by lia,by lia,hw,F,λx R ps M H1 RR hn nx s1 Rx M0 M1 tM=>?_,λR ps H1 RR hn s1=>absurd hn (F1 R ps RR)⟩;exists ⟨rfl,_,rfl,?_⟩;rw[show decide (V.ref x=V.non)=false from decide_eq_false (λz=>nomatch z)];exists cu λt H2 s2 g2=>?_
  exact k1 t x R ps H2 RR g2 nx (s1.trans s2) (Rx.same s2)
theorem Ex:aU ["lists","joined","each"] ["lists"] (aN Jj):=by walk_at "d"
theorem Qt (T:Txt K mg Z) (ptree:P.given.tree=none):cK P w K mg base fK 1 Z.OW Z.OM ["lists"] Ge:=by
 refine T.zT.F.ok Ex (λvs H Q E h=>?_) (λcdv A outer s H vs Q E hr h=>?_)
 ·obtain ⟨p,us,zss,rfl,_⟩:=h;rfl
 ·obtain ⟨p,us,zss,rfl,gx,qx,hl,k⟩:=h
  refine ⟨_,(ar (aS (i:=1) Ex.nd rfl (Or.inl rfl) (dc ai))
   (ar (dR PassesOwn.never rfl (cB (pv 0)) (aO (i:=2) Ex.nd)
    (aA (ic (qH cx PySem.F.slot_list_extend PySem.F.type_list_extend Mg (pv 1) (ae (pv 2) ai)))))
   (aA (aV (pv 1))))),?_⟩
  refine aQ (σ:=[some (.ref p),none,none]) rfl ?_;have lx:=qx.length;exists cS λj H1 s1 n1 g1=>?_
  exists ⟨⟨_,bF.of (s1 _ _ gx)⟩,?_⟩;refine iX (K:=K) (a:=p) (xs:=us) (λi σ' H'=>aI H H'/\∃x:Option V,σ'=[some (.ref p),some (.ref j),x]/\H' j=some (.lst (zss.take i).flatten)) ⟨s1,none,rfl,g1⟩ (λi σ' H' _ ⟨s,_⟩=>bF.of (s _ _ gx)) ?_ ?_
  ·rintro i x σ' H' hx ⟨s,y,rfl,gj⟩;obtain ⟨zs,ez,q,rfl,gz⟩:=bT qx hx;have tl:(zss.take (i+1)).flatten=(zss.take i).flatten++zs:=by rw[take_snoc ez,eT];simp
   have bl:(zss.take i).flatten.length+zs.length<=1000:=by
    have e:zss.flatten=(zss.take (i+1)).flatten++(zss.drop (i+1)).flatten:=by rw[<- eT,List.take_append_drop]
    rw[e,tl,aw,aw] at hl
    lia
   exists ⟨.inl ⟨rfl,_,bF.of gj⟩,?_⟩;exists ⟨j,q,_,zs,rfl,rfl,gj,s _ _ gz,aT (br (by lia)),?_⟩;exact ⟨s.after n1,_,rfl,by rw[aJ,tl]⟩
  ·rintro σ' H' ⟨s,y,rfl,gj⟩;rw[aE (by lia)] at gj;exists k j H' n1 s gj
theorem vX (T:Txt K mg Z) (ptree:P.given.tree=none):cK P w K mg base fK 4 Z.yk Z.yg ["one","other"] (Kr K):=by
 have eS:=ko (P:=P) (w:=w) (base:=base) T ptree;have iY:=pL (P:=P) (w:=w) (base:=base) T ptree;have gU:=kj (P:=P) (w:=w) (base:=base) T ptree;refine T.jy.F.ok iN (λvs H Q E h=>?_) (λcdv A outer s H vs Q E hr h=>?_)
 ·obtain ⟨p,q,xs,ys,rfl,_⟩:=h;rfl
 ·obtain ⟨p,q,xs,ys,rfl,hp,hq,hl,hz,⟨⟨M,h1⟩,⟨N,h2⟩⟩,kk⟩:=h
  refine ⟨_,(ar (aS (i:=2) iN.nd rfl (Or.inl rfl) (cH eS hr T.d7 (ae (pv 0) ai)))
   (ar (aS (i:=3) iN.nd rfl (Or.inl rfl) (cH eS hr T.d7 (ae (pv 1) ai)))
   (ar (aS (i:=4) iN.nd rfl (Or.inl rfl) (AS rfl T.list rfl T.zip (ae (cH iY hr T.ie (ae (pv 0) (ae (pv 2) ai))) (ae (cH iY hr T.ie (ae (pv 1) (ae (pv 3) ai))) ai))))
   (aA (aV (cH gU hr T.ja (ae (bL (Ik rfl) (by rfl) T.sum PyProof.Rows.boot_sum (ae (bX ["mine","yours"] [] [] (cB (pv 4)) (λ_=>(kz K 2 (b9 (aO (i:=0) (show ND9 ["mine","yours"] by decide +kernel)) (b9 (aO (i:=1) (show ND9 ["mine","yours"] by decide +kernel)) fL)))) (λ_=>cw) (λ_=>(bI dg (pv 0) (pv 1)))) ai)) (ae (bI dg (pv 2) (pv 3)) ai)))))))),?_⟩
  refine aQ (σ:=[some (.ref p),some (.ref q),none,none,none]) rfl ?_;replace hp:=hp.rowK;replace hq:=hq.rowK;replace hl:(ys.map nm).length=(xs.map nm).length:=by simpa using hl
  replace hz:(xs.map nm).length<=1000:=by simpa using hz
  obtain ⟨b1,s1⟩:=h1.bot;obtain ⟨b2,s2⟩:=h2.bot;have k2:∀r H',aI H H'->H' r=some (.tup [.int (lo (JR (xs.map nm) (ys.map nm)) (fj (xs.map nm)*fj (ys.map nm))),.int (hi (JR (xs.map nm) (ys.map nm)) (fj (xs.map nm)*fj (ys.map nm)))])->Q (.ref r) H':=λr H' s g=>kk r H' s (b6.mk g (La b1 b2))
  clear kk;generalize xs.map nm=ns at hp hq hl hz h1 h2 b1 b2 s1 s2 k2;generalize ys.map nm=ms at hp hq hl hz h1 h2 b1 b2 s1 s2 k2;have hb:0 < fj ns*fj ms:=jq b1 b2;exists ⟨p,ns,M,rfl,hp,hz,h1,λH1 t1=>?_⟩;exists ⟨q,ms,N,rfl,hq.same t1,by lia,h2,λH2 t2=>?_⟩;have u2:=t1.trans t2;exists ⟨p,ns,M,_,rfl,hp.same u2,hz,h1,b1,s1,λr1 H3 n3 t3 g3=>?_⟩;exists ⟨q,ms,N,_,rfl,(hq.same u2).same t3,by lia,h2,b2,s2,λr2 H4 n4 t4 g4=>?_⟩;exists ⟨r1,r2,_,_,rfl,bF.of (t4 _ _ g3),bF.of g4,by simp [dO,hl],λL ts H5 t5 n5 g5 pr=>?_⟩;have lt:=pr.length;have ll:(dO ns (fj ns)).length=ns.length:=by simp [dO]
  have lm:(dO ms (fj ms)).length=ns.length:=by simp [dO,hl]
  rw[qV,aj,aj,ll,lm] at lt;exists ⟨⟨_,bF.of g5⟩,?_⟩;refine fJ (K:=K) (xs:=ts) (λi ys H'=>H'=H5/\ys=((List.zipWith (λx y=>x*y) (dO ns (fj ns)) (dO ms (fj ms))).take i).map V.int) (aT (br (by lia))) ⟨rfl,rfl⟩ (λi ys H' _ ⟨e,_⟩=>by subst e;exact bF.of g5) ?_ ?_
  ·rintro i x ys H' hx hlen ⟨rfl,rfl⟩;obtain ⟨pq,epq,T,rfl,gT⟩:=bT pr hx;obtain ⟨t,u,et,eu,rfl⟩:=Ka epq;exists fY (show iw _ _ from .inr ⟨_,_,vN h1 b1 s1 (ao et),vN h2 b2 s2 (ao eu),by decide⟩) ?_;have ez:(List.zipWith (λx y=>x*y) (dO ns (fj ns)) (dO ms (fj ms)))[i]?=some (t*u):=by rw[bu,et,eu]
   exact ⟨rfl,by rw[take_snoc ez];simp⟩
  ·rintro ys H' hy ⟨rfl,rfl⟩ l hl';exists ⟨l,List.zipWith (λx y=>x*y) (dO ns (fj ns)) (dO ms (fj ms)),rfl,bF.of (by rw[aJ,aE (by rw[bo];lia)]),?_⟩;exists fY (show iw _ _ from .inr ⟨_,_,s1,s2,by decide⟩) ?_;exists ⟨_,_,rfl,by lia,(s1.mul s2).mono (by decide),λr H6 t6 g6=>?_⟩;rw[if_neg (by lia),if_neg (by lia)] at g6;exact k2 r H6 ((((u2.trans t3).trans t4).trans t5).trans ((aI.new hl').trans t6)) g6
theorem vZ (T:Txt K mg Z) (ptree:P.given.tree=none):cK P w K mg base fK 5 Z.yl Z.yh ["grid","row"] (Kp K):=by
 have G_row_dot_R:=vX (P:=P) (w:=w) (base:=base) T ptree;refine T.iT.F.ok Az (λvs H Q E h=>?_) (λcdv A outer s H vs Q E hr h=>?_)
 ·obtain ⟨p,q,H0,rows,ys,rfl,_⟩:=h;rfl
 ·obtain ⟨p,q,H0,rows,ys,rfl,hp,hq,hz,hl,hr1,kk⟩:=h;refine ⟨_,(aA (aV (bX ["line"] ["row"] [1] (cB (pv 0)) (λ_=>(aO (i:=0) (show ND9 ["line","row"] by decide +kernel))) (λ_=>cw) (λ_=>(cH G_row_dot_R hr T.jy (ae (pv 0) (ae (pv 1) ai))))))),?_⟩;refine aQ (σ:=[some (.ref p),some (.ref q)]) rfl ?_;obtain ⟨xs,gx,qx,_⟩:=id hp;exists ⟨⟨_,bF.of gx⟩,?_⟩;refine dm (K:=K) (F:=cY K H0) (b6 K) (λxs=>cG xs ys) gx qx hz (λa b=>a.same b) (λa b=>a.same b) ?_ ?_
  ·rintro i ns x H' NY NN en s ⟨u,rfl,_,hu⟩ k;obtain ⟨e1,e2⟩:=hr1 ns (ao en);exists ⟨u,q,ns,ys,rfl,hu,hq.same s,e1.symm,by lia,e2,λr H2 s2 h2'=>k _ _ s2 h2'⟩
  ·rintro ys' H' r hr s g pr nx;exact kk r H' hr s ⟨ys',g,pr⟩
theorem tW:aU ["one","other","wide","columns"] ["one","other","wide"] (aN pe):=by walk_at "d"
theorem ug (T:Txt K mg Z) (ptree:P.given.tree=none):cK P w K mg base fK 6 Z.xg Z.wK ["one","other","wide"] (Ar K):=by
 have eI:=iS (P:=P) (w:=w) (base:=base) T ptree;have G_grid_on_R:=vZ (P:=P) (w:=w) (base:=base) T ptree;refine T.kC.F.ok tW (λvs H Q E h=>?_) (λcdv A outer s H vs Q E hr h=>?_)
 ·obtain ⟨p,q,w,H0,H1,one,other,rfl,_⟩:=h;rfl
 ·obtain ⟨p,q,w,H0,H1,one,other,rfl,hp,hq,z1,z2,hw,h1,h2,kk⟩:=h
  refine ⟨_,(ar (aS (i:=3) tW.nd rfl (Or.inr rfl) (cH eI hr T.fD (ae (pv 1) (ae (pv 2) ai))))
   (aA (aV (bX ["line"] ["columns"] [3] (cB (pv 0)) (λ_=>(aO (i:=0) (show ND9 ["line","columns"] by decide +kernel))) (λ_=>cw) (λ_=>(cH G_grid_on_R hr T.iT (ae (pv 1) (ae (pv 0) ai)))))))),?_⟩
  refine aQ (σ:=[some (.ref p),some (.ref q),some (.int w),none]) rfl ?_;exists ⟨q,w,H1,other,rfl,hq,z2,hw,h2,λc H2 nc s2 hc=>?_⟩;obtain ⟨xs,gx,qx,_⟩:=hp.same s2;exists ⟨⟨_,bF.of gx⟩,?_⟩;refine dm (K:=K) (F:=cY K H0) (cY K H) (λxs=>(cp other w).map λys=>cG ys xs) gx qx z1 (λa b=>a.same b) (λa b=>a.same b) ?_ ?_
  ·rintro i ns x H3 NY NN en s3 ⟨u,rfl,_,hu⟩ k;obtain ⟨e1,e2⟩:=h1 ns (ao en);exists ⟨c,u,H,cp other w,ns,rfl,hc.same s3,hu,by simp [cp];lia,by lia,λys hy=>⟨?_,e2 ys hy⟩,λr H4 nr s4 hr=>k _ _ s4 ⟨r,rfl,s2.none (s3.none nr),hr⟩⟩;obtain ⟨j,_,rfl⟩:=az.mp hy;rw[aj];exact e1.symm
  ·rintro ys' H3 r hr s3 g pr nx;exact kk r H3 (s2.none hr) (s2.trans s3) ⟨ys',g,pr,jD nx⟩
theorem LP:aU ["one","other"] ["one","other"] (aN AE):=by walk_at "d"
theorem L7 (T:Txt K mg Z) (ptree:P.given.tree=none):cK P w K mg base fK 3 Z.Io Z.HX ["one","other"] (Ao K):=by
 have gU:=kj (P:=P) (w:=w) (base:=base) T ptree;refine T.xX.F.ok LP (λvs H Q E h=>?_) (λcdv A outer s H vs Q E hr h=>?_)
 ·obtain ⟨u,v,x,y,rfl,hx,hy,y0,sx,sy,k⟩:=h;rfl
 ·obtain ⟨u,v,x,y,rfl,hx,hy,y0,sx,sy,k⟩:=h;obtain ⟨p,rfl,gp⟩:=id hx;obtain ⟨q,rfl,gq⟩:=id hy
  refine ⟨_,(ar (dh (bw fH (aW bU (pv 1) ak) ak (bM _)) (aA Kz) b8)
   (aA (aV (cH gU hr T.ja (ae (bI dg (aW bU (pv 0) ak) (aW bU (pv 1) ak)) (ae (bI dg (aW bU (pv 0) ak) (aW bU (pv 1) ak)) ai)))))),?_⟩
  refine aQ (σ:=[some (.ref p),some (.ref q)]) rfl ?_;obtain ⟨hb,e⟩:=Qy (x:=x) y0;have yn:0 < (nm y).1:=qS.mp y0;walk_at "w";rw[decide_eq_false (show ¬((nm y).1=0) by lia)];exists fY (show iw _ _ from .inr ⟨_,_,sx.1,sy.2,by decide⟩) ?_;exists fY (show iw _ _ from .inr ⟨_,_,sx.2,sy.1,by decide⟩) ?_;exists ⟨_,_,rfl,by lia,(sx.2.mul sy.1).mono (by decide),λr H' s' h'=>?_⟩;rw[if_neg (by lia),if_neg (by lia)] at h';exact k r H' s' (b6.mk h' e)
theorem Eu:aU ["weights","row"] ["weights","row"] (aN rE):=by walk_at "d"
theorem vY (T:Txt K mg Z) (ptree:P.given.tree=none):cK P w K mg base fK 4 Z.zb Z.yM ["weights","row"] (Km K):=by
 have OZ:=L7 (P:=P) (w:=w) (base:=base) T ptree;refine T.lQ.F.ok Eu (λvs H Q E h=>?_) (λcdv A outer s H vs Q E hr h=>?_)
 ·obtain ⟨p,q,wq,xq,rfl,_⟩:=h;rfl
 ·obtain ⟨p,q,wq,xq,rfl,hp,hq,hl,hz,hw,hx,k⟩:=h;refine ⟨_,(aA (aV (bX ["value","weight"] [] [] (lK rfl T.zip (ae (pv 1) (ae (pv 0) ai))) (λ_=>(kz K 2 (b9 (aO (i:=0) (show ND9 ["value","weight"] by decide +kernel)) (b9 (aO (i:=1) (show ND9 ["value","weight"] by decide +kernel)) fL)))) (λ_=>cw) (λ_=>(cH OZ hr T.xX (ae (pv 0) (ae (pv 1) ai))))))),?_⟩;refine aQ (σ:=[some (.ref p),some (.ref q)]) rfl ?_;obtain ⟨ws,gw,qw⟩:=id hp;obtain ⟨xs,gx,qx⟩:=id hq;have lx:=qx.length;have lw:=qw.length;exists ⟨⟨_,bF.of gx⟩,⟨_,bF.of gw⟩,?_⟩;refine mE (K:=K) (xs:=xs) (ws:=ws) (λi zs H'=>aI H H'/\Paired (b6 K H') ((rW wq xq).take i) zs) (aT (br (by lia))) (by lia) ⟨aI.refl _,.nil⟩ (λi zs H' _ ⟨s,_⟩=>⟨bF.of (s _ _ gx),bF.of (s _ _ gw)⟩) ?_ ?_
  ·rintro i x y zs H' r h1 h2 hlen ⟨s,hP⟩ hr;obtain ⟨n,en,hn1⟩:=bT qx h1;obtain ⟨m,em,hm1⟩:=bT qw h2;obtain ⟨w0,w1⟩:=hw m (ao em);have s1:=aI.new (o:=.tup [x,y]) hr;have s01:=s.trans s1;have gr:(upd H' r (.tup [x,y])) r=some (.tup [x,y]):=aJ;generalize upd H' r (.tup [x,y])=Hr at s1 s01 gr ⊢;exists ⟨_,_,n,m,rfl,hn1.same s01,hm1.same s01,w0,hx n (ao en),w1,λr3 H3 s3 h3=>?_⟩;refine ⟨s01.trans s3,?_⟩;have ez:(rW wq xq)[i]?=some (n / m):=by unfold rW;rw[bu,en,em]
   rw[take_snoc ez];exact bV (Paired.imp' (λ_ _ z=>z.same (s1.trans s3)) hP) (.cons h3 .nil)
  ·rintro zs H' hy ⟨s,hP⟩ l hl';rw[aE (by unfold rW;rw[bo];lia)] at hP;exact k l _ (s.none hl') (s.trans (aI.new hl')) ⟨zs,aJ,Paired.imp' (λ_ _ z=>z.same (aI.new hl')) hP⟩
theorem tH:aU ["weights","lists","wide","rows","all_weights","columns"] ["weights","lists","wide"] (aN AH):=by walk_at "d"
theorem L8 (T:Txt K mg Z) (ptree:P.given.tree=none):cK P w K mg base fK 7 Z.Iq Z.HZ ["weights","lists","wide"] (Kn K):=by
 have O2:=Qt (P:=P) (w:=w) (base:=base) T ptree;have eI:=iS (P:=P) (w:=w) (base:=base) T ptree;have qv:=ug (P:=P) (w:=w) (base:=base) T ptree;have tx:=vY (P:=P) (w:=w) (base:=base) T ptree;refine T.xY.F.ok tH (λvs H Q E h=>?_) (λcdv A outer s H vs Q E hr h=>?_)
 ·obtain ⟨q,l,n,us,Rs,ws,rfl,_⟩:=h;rfl
 ·obtain ⟨q,l,n,us,Rs,ws,rfl,Rq,gl,pl,n1,l1,f1,fw,hx,hw,rc,k⟩:=h
  refine ⟨_,(ar (aS (i:=3) tH.nd rfl (Or.inl rfl) (cH O2 hr T.zT (ae (pv 1) ai)))
   (ar (aS (i:=4) tH.nd rfl (Or.inr rfl) (cH O2 hr T.zT (ae (bX ["each"] ["weights"] [0] (cB (pv 1)) (λ_=>(aO (i:=0) (show ND9 ["each","weights"] by decide +kernel))) (λ_=>cw) (λ_=>(pv 1))) ai)))
   (ar (aS (i:=5) tH.nd rfl (Or.inl rfl) (cH eI hr T.fD (ae (pv 3) (ae (pv 2) ai))))
   (aA (aV (cH qv hr T.kC (ae (bX ["column"] ["all_weights"] [4] (cB (pv 5)) (λ_=>(aO (i:=0) (show ND9 ["column","all_weights"] by decide +kernel))) (λ_=>cw) (λ_=>(cH tx hr T.lQ (ae (pv 1) (ae (pv 0) ai))))) (ae (pv 3) (ae (pv 2) ai))))))))),?_⟩
  refine aQ (σ:=[some (.ref q),some (.ref l),some (.int n),none,none,none]) rfl ?_;have lu:=pl.length;obtain ⟨zss,pz,pr⟩:=Hv pl;have pf:=pJ pr;have lf:=pf.length;exists ⟨l,us,zss,rfl,gl,pz,by lia,λr1 H1 nr1 s1 g1=>?_⟩;have G1:bB K (λ_=>none) H1 r1 Rs.flatten:=⟨_,g1,Paired.imp' (λ_ _ ⟨a,b,_,d⟩=>⟨a,b,rfl,d.same s1⟩) pf,jD ⟨H,nr1,pf⟩⟩;obtain ⟨wz,gw,qw⟩:=id Rq;exists ⟨⟨_,bF.of (s1 _ _ gl)⟩,?_⟩;refine dm (K:=K) (F:=λ_ (_:LR9) _=>True) (λ_ (_:LR9) v=>v=V.ref q) id (as:=Rs) (s1 _ _ gl) (Paired.imp' (λ_ _ _=>trivial) pl) (by lia) (λa b=>a) (λa b=>a) ?_ ?_
  ·rintro i c x H' NY NN ec s' _ k1;exists k1 _ _ (aI.refl _) rfl
  rintro ys H2 r2 nr2 s2 g2 pr2 _;rw[mG] at pr2;have s02:=s1.trans s2;have py:Paired (λzs u=>∃q,u=V.ref q/\H2 q=some (.lst zs)) (List.replicate Rs.length wz) ys:=AL (λ_ y e=>⟨q,e,s02 _ _ gw⟩) pr2;have pw:=pJ (Kw (G:=λR zs=>Paired (b6 K H) R zs) qw Rs.length);have lw:=pw.length;exists ⟨r2,ys,_,rfl,g2,py,by unfold vL at fw;lia,λr3 H3 nr3 s3 g3=>?_⟩;have s03:=s02.trans s3;have R3:cz K H3 r3 (vL ws Rs.length):=⟨_,g3,Paired.imp' (λ_ _ z=>z.same s03) pw⟩;have s13:=s2.trans s3;exists ⟨r1,n,_,_,rfl,G1.same s13,f1,by lia,λxs h=>(hx xs h).1,λr4 H4 nr4 s4 G4=>?_⟩;obtain ⟨cs,gc,qc,_⟩:=id G4;have lc:=qc.length;rw[cL] at lc;exists ⟨⟨_,bF.of gc⟩,?_⟩;refine dm (K:=K) (F:=cY K H3) (cY K H3) (rW (vL ws Rs.length)) gc qc (by rw[cL];lia) (λa b=>a.same b) (λa b=>a.same b) ?_ ?_
  ·rintro i c x H' NY NN ec s' ⟨u,rfl,nu,Ru⟩ k1;have mc:=ao ec;have wc:=iB c mc;exists ⟨r3,u,_,c,rfl,R3.same (s4.trans s'),Ru,by rw[fw,wc],by lia,λw h=>hw w (IV h),Ag hx c mc,λr5 H5 nr5 s5 R5=>k1 _ _ s5 ⟨r5,rfl,(s4.trans s').none nr5,R5⟩⟩
  rintro zs H5 r5 nr5 s5 g5 pr5 nx5;have G5:bB K H3 H5 r5 ((cp Rs.flatten n).map (rW (vL ws Rs.length))):=⟨zs,g5,pr5,jD nx5⟩;have s15:=(s13.trans s4).trans s5;exists ⟨r5,r1,n,_,_,_,_,rfl,G5,G1.same s15,by rw[aj,cL];lia,f1,by lia,λxs h=>?_,λxs h=>(hx xs h).1,λr6 H6 nr6 s6 G6=>k r6 _ H6 ((s1.trans s15).none nr6) ((s1.trans s15).trans s6) G6⟩;obtain ⟨ys',hy,rfl⟩:=az.mp h;refine ⟨?_,λzs hz=>⟨(rc zs hz).1,(rc ys' hy).2⟩⟩;unfold rW;rw[bo,fw,iB ys' hy,kG]
theorem PC:aU ["system","start","goal","steps","used","rows","answer","latest_first"] ["system","start","goal","steps"] (aN Jk):=by walk_at "d"
theorem Qu (T:Txt K mg Z) (ptree:P.given.tree=none):cK P w K mg base fK 1 Z.OX Z.ON ["system","start","goal","steps"] Pq:=T.E4.F.ok PC (λvs H Q E h=>(show False from h).elim) (λcdv A outer s H vs Q E hr h=>(show False from h).elim)
theorem Je:aU ["price","weights","lists"] ["price","weights","lists"] (aN xI):=by walk_at "d"
theorem Jv (T:Txt K mg Z) (ptree:P.given.tree=none):cK P w K mg base fK 6 Z.D3 Z.DK ["price","weights","lists"] (FZ K):=by
 have tx:=vY (P:=P) (w:=w) (base:=base) T ptree;have G_grid_on_R:=vZ (P:=P) (w:=w) (base:=base) T ptree;refine T.vD.F.ok Je (λvs H Q E h=>?_) (λcdv A outer s H vs Q E hr h=>?_)
 ·obtain ⟨p,q,l,us,Rs,ws,x,rfl,_⟩:=h;rfl
 ·obtain ⟨p,q,l,us,Rs,ws,x,rfl,Rp,Rq,gl,pl,l1,l2,l3,rx,hw,hR,k⟩:=h;refine ⟨_,(aA (aV (bX ["rows"] ["weights","price"] [1,0] (NQ rfl T.reversed (ae (pv 2) ai)) (λ_=>(aO (i:=0) (show ND9 ["rows","weights","price"] by decide +kernel))) (λ_=>cw) (λ_=>(cH tx hr T.lQ (ae (pv 1) (ae (cH G_grid_on_R hr T.iT (ae (pv 0) (ae (pv 2) ai))) ai))))))),?_⟩;refine aQ (σ:=[some (.ref p),some (.ref q),some (.ref l)]) rfl ?_;have lu:=pl.length;walk_at "w";unfold Tt;exists ⟨l,us,rfl,bF.of gl,?_⟩;refine OR (K:=K) (a:=l) (xs:=us) (λi zs H'=>aI H H'/\Paired (cY K H H') ((Rs.reverse.map λrows=>rW ws (rows.map λr=>cG r x)).take i) zs) (aT (br (by lia))) ⟨aI.refl _,.nil⟩ (λi zs H' _ ⟨s,_⟩=>bF.of (s _ _ gl)) ?_ ?_
  ·rintro i v zs H' hi hv hlen ⟨s,hP⟩;obtain ⟨R,eR,u,rfl,_,Gu⟩:=bT pl hv;obtain ⟨h1,h2⟩:=hR R (ao eR);exists ⟨u,p,_,R,x,rfl,Gu.same s,Rp.same s,by lia,by lia,λxs hx=>⟨(h2 xs hx).1,(h2 xs hx).2.1,rx⟩,λr1 H1 n1 s1 R1=>?_⟩;have s01:=s.trans s1;exists ⟨q,r1,ws,_,rfl,Rq.same s01,R1,by rw[aj];exact h1.symm,by rw[aj];lia,hw,λy hy=>?_,λr2 H2 n2 s2 R2=>?_⟩
   ·obtain ⟨xs,hx,rfl⟩:=az.mp hy;exact (h2 xs hx).2.2
   refine ⟨s01.trans s2,?_⟩
   have ez:(Rs.reverse.map λrows=>rW ws (rows.map λr=>cG r x))[i]?=some (rW ws (R.map λr=>cG r x)):=by
    rw[aB,List.getElem?_reverse (by lia),show Rs.length - 1 - i=us.length - 1 - i by lia,eR];rfl
   rw[take_snoc ez];exact bV (Paired.imp' (λ_ _ z=>cY.same z (s1.trans s2)) hP) (.cons ⟨r2,rfl,s01.none n2,R2⟩ .nil)
  ·rintro zs H' hy ⟨s,hP⟩ r hr;rw[aE (by rw[aj,tG];lia)] at hP;exact k r _ (s.none hr) (s.trans (aI.new hr)) ⟨zs,aJ,Paired.imp' (λ_ _ z=>cY.same z (aI.new hr)) hP,jD ⟨_,hr,hP⟩⟩
theorem rg:aU ["system","weights","start","goal","steps","lists","due","answer","price"] ["system","weights","start","goal","steps"] (aN EJ):=by walk_at "d"
theorem N4 (T:Txt K mg Z) (ptree:P.given.tree=none):cK P w K mg base fK 8 Z.Lx Z.Ll ["system","weights","start","goal","steps"] (Dm K Z.a_System):=by
 have IF:=ET (P:=P) (w:=w) (base:=base) T ptree;have ME:=Jx (P:=P) (w:=w) (base:=base) T ptree;have Q0:=N2 (P:=P) (w:=w) (base:=base) T ptree;have O0:=L8 (P:=P) (w:=w) (base:=base) T ptree;have TV:=Qu (P:=P) (w:=w) (base:=base) T ptree;have G_row_dot_R:=vX (P:=P) (w:=w) (base:=base) T ptree;have MC:=Jv (P:=P) (w:=w) (base:=base) T ptree;refine T.Bh.F.ok rg (λvs H Q E h=>?_) (λcdv A outer s H vs Q E hr h=>?_)
 ·obtain ⟨x,q,s,g,tt,N,X,H0,mv,pt,lk,ws,st,go,rfl,_⟩:=h;rfl
 ·obtain ⟨x,q,s,g,tt,N,X,H0,mv,pt,lk,ws,st,go,rfl,S,D,SF,Rq,Rs,ls,Rg,lg,cf,sg,F,k⟩:=h
  refine ⟨_,(ar (aS (i:=5) rg.nd rfl (Or.inl rfl) (cH IF hr T.pT (ae (pv 0) (ae (pv 4) ai))))
   (ar (aS (i:=6) rg.nd rfl (Or.inl rfl) (cH ME hr T.vF (ae (pv 0) (ae (pv 2) (ae (pv 3) (ae (pv 4) ai))))))
   (ar (aS (i:=7) rg.nd rfl (Or.inl rfl) (cH Q0 hr T.Bf (ae (cH O0 hr T.xY (ae (pv 1) (ae (pv 5) (ae (eP (pv 0) rfl) ai)))) (ae (eP (pv 0) rfl) (ae (pv 6) ai)))))
   (ar (dh (bw fH (aW bU (pv 7) ak) AR (bM _)) (aA (aV (cH TV hr T.E4 (ae (pv 0) (ae (pv 2) (ae (pv 3) (ae (pv 4) ai))))))) b8)
   (ar (aS (i:=8) rg.nd rfl (Or.inl rfl) (aW bU (pv 7) ak))
   (aA (aV (cW (ae AR (ae (cH G_row_dot_R hr T.jy (ae (pv 8) (ae (pv 6) ai))) (ae (cH MC hr T.vD (ae (pv 8) (ae (pv 1) (ae (pv 5) ai)))) (ae (pv 8) ai)))))))))))),?_⟩
  refine aQ (σ:=[some (.ref x),some (.ref q),some (.ref s),some (.ref g),some (.int tt),none,none,none,none]) rfl ?_;have d8:=D.n8;have i4:=D.i4;have t40:=F.t40;obtain ⟨dx,a',b',c',gx,_⟩:=id S;have kl:=jX (mv:=mv) (pt:=pt) tt;have kl2:tt*pt.length<=20*4:=ax t40 i4;have wk:=gR (mv:=mv) (pt:=pt) rfl D.pw tt;have lL:=Bm (T:=tt) ls lg;have la:(Cs mv pt tt).length=tt:=by unfold Cs;rw[aj,bR]
  have lwt:(vL ws tt).length=(kry mv pt tt).length:=by rw[zO,kl,F.lw]
  exists ⟨x,tt,H0,mv,pt,lk,rfl,by lia,S,D,F.ad,λr1 us H1 n1 s1 g1 p1=>?_⟩;exists ⟨x,s,g,tt,H0,mv,pt,lk,st,go,rfl,by lia,S.same s1,D,SF,Rs.same s1,ls,Rg.same s1,lg,cf,sg,λr2 H2 n2 s2 R2=>?_⟩;have s02:=s1.trans s2;have p2:=Paired.imp' (λ_ _ z=>IQ.same z s2) p1;exists ⟨x,Z.a_System,dx,_,_,rfl,s02 _ _ gx,T.cl_System,T.na_states,ia,?_⟩;exists ⟨q,r1,mv.length,us,_,ws,rfl,Rq.same s02,s2 _ _ g1,p2,by lia,by lia,by rw[jr];lia,by rw[jr,la];exact lwt,λxs h=>?_,F.wp,by rw[jr,la];exact F.rc,λr3 H9 H3 n3 s3 G3=>?_⟩
  ·rw[jr] at h;exact ⟨wk xs h,(F.rk xs h).2⟩
  rw[jr,la] at G3;have s03:=s02.trans s3;obtain ⟨w,sw⟩:=F.sw;exists ⟨x,Z.a_System,dx,_,_,rfl,s03 _ _ gx,T.cl_System,T.na_states,ia,?_⟩;exists ⟨r3,r2,mv.length,w,_,_,_,rfl,G3,R2.same s3,by rw[tO,lL],by rw[tO];lia,by lia,wo,sw,λR ps RR=>(F.ok R ps RR).1,λt4 x4 R ps H4 RR g4 n4 s4 R4=>?_⟩;obtain ⟨hn,tp⟩:=F.ok R ps RR;have sl:=So wk lwt lL RR hn;have lx:(mI R ps mv.length).length=mv.length:=l5;generalize mI R ps mv.length=pr at R4 tp sl lx;have s04:=s03.trans s4;have s24:=s3.trans s4;have rx:FF pr:=vn F.n0 (ag F.nb (av (by decide) (by decide))) (ag F.xb (av (by decide) (by decide))) tp;walk_at "w";rw[decide_eq_false (show ¬(Str.ofString "yes"=Str.ofString "no") by decide)];exists ⟨x4,r2,pr,_,rfl,R4,R2.same s24,by rw[lL,lx],by lia,⟨rx,F.rd⟩,λe5 H5 s5 N5=>?_⟩;have s05:=s04.trans s5;have s25:=s24.trans s5;exists ⟨x4,q,r1,us,_,ws,pr,rfl,R4.same s5,Rq.same s05,(s2.trans s25) _ _ g1,Paired.imp' (λ_ _ z=>IQ.same z s25) p2,by lia,by rw[F.lw];lia,by lia,rx,F.wp,λR' hR=>?_,λp6 H6 n6 s6 G6=>?_⟩
  ·have:∀xs∈R',xs∈kry mv pt tt:=λxs hx=>by rw[<- jr];exact gY.mpr ⟨R',hR,hx⟩
   refine ⟨?_,λxs hx=>⟨by rw[wk xs (this xs hx),lx],(F.rk xs (this xs hx)).1,F.pz xs (this xs hx) pr lx tp⟩⟩;unfold Cs at hR;obtain ⟨t,_,rfl⟩:=az.mp hR;rw[aj,F.lw]
  have s06:=s05.trans s6;exists cu λt7 H7 s7 g7=>?_
  exact k t7 e5 p6 x4 pr H7 g7 (s05.none n6) (s03.none n4) (s06.trans s7) ((N5.same s6).same s7) ((G6.weak s05).same s7) ((R4.same (s5.trans s6)).same s7) sl tp
theorem xF:aU ["self"] ["self"] (aN fI):=by walk_at "d"
theorem xV (T:Txt K mg Z) (ptree:P.given.tree=none):cK P w K mg base fK 7 Z.lh Z.k9 ["self"] (Ak K Z.a_System):=by
 have j9:=me (P:=P) (w:=w) (base:=base) T ptree;have eI:=iS (P:=P) (w:=w) (base:=base) T ptree;refine T.qO.ok xF (λvs H Q E h=>?_) (λcdv A outer s H vs Q E hr h=>?_)
 ·obtain ⟨x,H0,mv,pt,lk,rfl,_⟩:=h;rfl
 ·obtain ⟨x,H0,mv,pt,lk,rfl,S,D,F,k⟩:=h;refine ⟨_,(aA (aV (KI T.mk_System j9 (hr.mono (by decide)) rfl T.mg_System T.j3 .nil Dv (ae (cH eI hr T.fD (ae (eP (pv 0) rfl) (ae (eP (pv 0) rfl) ai))) (ae (eP (pv 0) rfl) (ae (eP (pv 0) rfl) ai)))))),?_⟩;refine aQ (σ:=[some (.ref x)]) rfl ?_;obtain ⟨dx,a,b,c,gx,n1,n2,n3,Ga,Gb,Gc⟩:=id S;have d1:=D.n8;exists ⟨x,Z.a_System,dx,_,_,rfl,gx,T.cl_System,T.na_move,qY,?_⟩;exists ⟨x,Z.a_System,dx,_,_,rfl,gx,T.cl_System,T.na_states,ia,?_⟩;exists ⟨a,mv.length,H0,mv,rfl,Ga,by lia,by lia,D.mw,λt H1 nt s1 Gt=>?_⟩;have gx1:=s1 _ _ gx;exists ⟨x,Z.a_System,dx,_,_,rfl,gx1,T.cl_System,T.na_look,FR,?_⟩;exists ⟨x,Z.a_System,dx,_,_,rfl,gx1,T.cl_System,T.na_put,zP,?_⟩;walk_at "w";intro x' dx' nx ndx nex;have F':=F.turn;exact ⟨x',dx',t,c,b,H1,H,H0,H0,_,_,_,rfl,nx,ndx,nex,rfl,Gt,Gc.same s1,Gb.same s1,D.turn,F'.ok.1,F'.ok.2.1,F'.ok.2.2,λH' s' S'=>⟨rfl,k x' H' (s1.none nx) (s1.trans s') (S'.weak s1)⟩⟩
theorem Nu:aU ["one","other"] ["one","other"] (aN ED):=by walk_at "d"
theorem NZ (T:Txt K mg Z) (ptree:P.given.tree=none):cK P w K mg base fK 3 Z.Lq Z.Lg ["one","other"] (o3 K (λx y=>x*y)):=by
 have gU:=kj (P:=P) (w:=w) (base:=base) T ptree;refine T.Be.F.ok Nu (λvs H Q E h=>?_) (λcdv A outer s H vs Q E hr h=>?_)
 ·obtain ⟨p,q,a,b,c,d,rfl,hp,hq,hb,hd,sa,sb,sc,sd,k⟩:=zS h;rfl
 ·obtain ⟨p,q,a,b,c,d,rfl,hp,hq,hb,hd,sa,sb,sc,sd,k⟩:=zS h;refine ⟨_,(aA (aV (cH gU hr T.ja (ae (bI dg (aW bU (pv 0) ak) (aW bU (pv 1) ak)) (ae (bI dg (aW bU (pv 0) ak) (aW bU (pv 1) ak)) ai))))),?_⟩;refine aQ (σ:=[some (.ref p),some (.ref q)]) rfl ?_;have hbd:0 < b*d:=jq hb hd;have sbd:Sz 449950 (b*d):=(sb.mul sd).mono (by decide);exists fY (show iw _ _ from .inr ⟨_,_,sa,sc,by decide⟩) ?_;exists fY (show iw _ _ from .inr ⟨_,_,sb,sd,by decide⟩) ?_;walk_at "w";exists ⟨_,_,rfl,by lia,sbd,λr H' s' h'=>?_⟩;rw[if_neg (by lia),if_neg (by lia)] at h';exact k r H' s' h'
theorem AB:aU ["self","state"] ["self","state"] (aN iE):=by walk_at "d"
theorem A8 (T:Txt K mg Z) (ptree:P.given.tree=none):cK P w K mg base fK 6 Z.oA Z.oz ["self","state"] (FX K Z.a_System):=by
 have oU:=vz (P:=P) (w:=w) (base:=base) T ptree;refine T.uT.ok AB (λvs H Q E h=>?_) (λcdv A outer s H vs Q E hr h=>?_)
 ·obtain ⟨x,p,H0,mv,pt,lk,st,rfl,_⟩:=h;rfl
 ·obtain ⟨x,p,H0,mv,pt,lk,st,rfl,S,D,F,hp,l1,fs,k⟩:=h;refine ⟨_,(aA (aV (cH oU hr T.iT (ae (eP (pv 0) rfl) (ae (pv 1) ai))))),?_⟩;refine aQ (σ:=[some (.ref x),some (.ref p)]) rfl ?_;obtain ⟨dx,a,b,c,gx,n1,n2,n3,Ga,Gb,Gc⟩:=id S;have d3:=D.o4;have d1:=D.n8;exists ⟨x,Z.a_System,dx,_,_,rfl,gx,T.cl_System,T.na_look,FR,?_⟩;exists ⟨c,p,H0,lk,st,rfl,Gc,hp,by lia,by lia,λxs hx=>⟨by rw[D.lw xs hx,l1],.sys (F.fits λy hy=>.inr (.inr (.inl ⟨xs,hx,hy⟩))) fs⟩,k⟩
theorem mN:aU ["system","weights","start","goal","puts","price","turned","row"] ["system","weights","start","goal","puts","price"] (aN va):=by walk_at "d"
theorem GS (T:Txt K mg Z) (ptree:P.given.tree=none):cK P w K mg base fK 8 Z.BZ Z.BL ["system","weights","start","goal","puts","price"] (Nj K Z.a_System):=by
 have Cm:=Dz (P:=P) (w:=w) (base:=base) T ptree;have zM:=xV (P:=P) (w:=w) (base:=base) T ptree;have QZ:=NZ (P:=P) (w:=w) (base:=base) T ptree;have CV:=A8 (P:=P) (w:=w) (base:=base) T ptree;have oU:=vz (P:=P) (w:=w) (base:=base) T ptree;refine T.mV.F.ok mN (λvs H Q E h=>?_) (λcdv A outer s H vs Q E hr h=>?_)
 ·obtain ⟨x,q,s,g,p,y,tt,H0,H1,mv,pt,lk,pus,ws,st,go,pr,rfl,_⟩:=h;rfl
 ·obtain ⟨x,q,s,g,p,y,tt,H0,H1,mv,pt,lk,pus,ws,st,go,pr,rfl,S,D,SF,Rq,lw,Rs,ls,Rg,Gp,t12,Ry,F,k⟩:=h
  refine ⟨_,(ar (dh (bw (pK (CK hr)) (aW bA (cH Cm hr T.tL (ae (pv 0) (ae (pv 2) (ae (pv 4) ai)))) (t9 nK ak)) (pv 3) (bM _)) (aA (aV rY)) b8)
   (ar (aS (i:=6) mN.nd rfl (Or.inl rfl) (NS (pv 0) T.cl_System T.oJ zM (hr.mono (by decide)) T.qL .nil Dv))
   (ar (dR PassesOwn.never rfl (NQ rfl T.reversed (ae (pv 4) ai)) (aO (i:=7) mN.nd)
    (ar (dh (bw (pK (CK hr)) (bX ["weight","value"] [] [] (lK rfl T.zip (ae (pv 1) (ae (pv 7) ai))) (λ_=>(kz K 2 (b9 (aO (i:=0) (show ND9 ["weight","value"] by decide +kernel)) (b9 (aO (i:=1) (show ND9 ["weight","value"] by decide +kernel)) fL)))) (λ_=>cw) (λ_=>(cH QZ hr T.Be (ae (pv 0) (ae (pv 1) ai))))) (KH (pv 6) T.cl_System T.sL CV (hr.mono (by decide)) T.uF .nil Dv (ae (pv 5) ai)) (bM _)) (aA (aV rY)) b8)
   (aA (aS (i:=5) mN.nd rfl (Or.inl rfl) (cH oU hr T.iT (ae (eP (pv 6) rfl) (ae (pv 5) ai)))))))
   (aA (aV rY))))),?_⟩
  refine aQ (σ:=[some (.ref x),some (.ref q),some (.ref s),some (.ref g),some (.ref p),some (.ref y),none,none]) rfl ?_;have d8:=D.n8;have i4:=D.i4;have lp:=F.lp;have wp:=F.wp;have lr:=F.lr;have et:(cp mv mv.length).length=mv.length:=cL;exists ⟨x,s,p,H0,H1,mv,pt,lk,pus,st,rfl,S,D,SF,Rs,ls,Gp,by lia,wp,F.cf,λp2' H2 n2 s2 G2=>?_⟩;obtain ⟨us,gu,qu,_⟩:=id G2;have lu:=qu.length;rw[qh,lp] at lu;have ec:=oP (mv:=mv) (pt:=pt) (st:=st) (pus:=pus) (k:=tt) (by lia);have el:us[tt]?=some (us[tt]'(by lia)):=af (by lia)
  obtain ⟨q1,eq1,Rq1⟩:∃q,us[tt]?=some (V.ref q)/\cz K H2 q (tV mv pt st pus tt):=by
   obtain ⟨xs,ex,q,e,_,w⟩:=bT qu el;rw[ec] at ex;cases ex;exact ⟨q,by rw[el,e],w⟩
  have ey:∃zs,us=zs++[V.ref q1]:=by
   refine ⟨us.take tt,?_⟩;rw[<- take_snoc eq1,aE (by lia)]
  obtain ⟨zs,rfl⟩:=ey;exists cn (bF.of gu) (oR _ _) ?_;exists ⟨_,_,yH,_,_,by decide,Rq1.kind,(Rg.same s2).kind,?_⟩;by_cases he:tV mv pt st pus tt=go
  rotate_left
  ·rw[decide_eq_false he];exists k false H2 s2 ⟨λz=>(by cases z),λz=>absurd z.1 he⟩
  rw[decide_eq_true he];obtain ⟨dx,a',b',c',gx,_⟩:=S.same s2;exists ⟨x,dx,_,rfl,gx,Ja,?_⟩;exists ⟨x,H0,mv,pt,lk,rfl,S.same s2,D,SF.sf,λtn H3 n3 s3 S3=>?_⟩;have s03:=s2.trans s3;obtain ⟨vs,gp,qp,_⟩:=Gp.same s03;have lv:=qp.length;obtain ⟨dt,am,ap,al,gt,_,_,_,Gm,_,_⟩:=id S3;walk_at "w";unfold Tt;exists ⟨p,vs,rfl,bF.of gp,?_⟩;refine QG (K:=K) (a:=p) (xs:=vs) (λi σ' H'=>aI H3 H'/\∃yv z,σ'=[some (.ref x),some (.ref q),some (.ref s),some (.ref g),some (.ref p),some (.ref yv),some (.ref tn),z]/\cz K H' yv (d6 (cp mv mv.length) i pr)/\∀s' k,s' < i->k < pt.length->ws.getD k 0*(pus.reverse.getD s' []).getD k 0=cG (d6 mv s' (pt.getD k [])) pr) ⟨aI.refl _,y,_,rfl,Ry.same s03,λ_ _ h=>absurd h (di _)⟩ (λi σ' H' _ ⟨s,_⟩=>bF.of (s _ _ gp)) ?_ ?_
  ·rintro i v σ' H' hi hv ⟨s',yv,z,rfl,Ryv,hT⟩;obtain ⟨row,er,u,rfl,_,Ru⟩:=bT qp hv;have lo:=wp row (ao er);rw[<- lv] at er;have erv:=Nz (s:=i) (by lia) er;obtain ⟨wv,gw,qw⟩:=Rq.same (s03.trans s');obtain ⟨zv,gz,qz⟩:=Ru.same s';have lwv:=qw.length;have lzv:=qz.length;have FP:=F.fp i (by lia)
   have lpw:(d6 (cp mv mv.length) i pr).length=mv.length:=by
    have:=jO (mv:=cp mv mv.length) (st:=pr) (by rw[et];exact lr) i;rwa [et] at this
   exists ⟨⟨_,bF.of gw⟩,⟨_,bF.of gz⟩,?_⟩;refine mE (K:=K) (xs:=wv) (ws:=zv) (λj zs H''=>aI H' H''/\Paired (b6 K H'') ((List.zipWith (λa b=>a*b) ws row).take j) zs) (aT (br (by lia))) (by lia) ⟨aI.refl _,.nil⟩ (λi zs H'' _ ⟨s,_⟩=>⟨bF.of (s _ _ gw),bF.of (s _ _ gz)⟩) ?_ ?_
   ·rintro j x1 y1 zs H'' r h1 h2 hlen ⟨s,hP⟩ hr;obtain ⟨n,en,hn1⟩:=bT qw h1;obtain ⟨m,em,hm1⟩:=bT qz h2;have s1:=aI.new (o:=.tup [x1,y1]) hr;have s01:=s.trans s1;have gr:(upd H'' r (.tup [x1,y1])) r=some (.tup [x1,y1]):=aJ;generalize upd H'' r (.tup [x1,y1])=Hr at s1 s01 gr ⊢;exists ⟨_,_,n,m,rfl,hn1.same s01,hm1.same s01,F.sw n (ao en),F.su row (ao er) m (ao em),λr3 H3 s3 h3=>?_⟩;refine ⟨s01.trans s3,?_⟩;have ez:(List.zipWith (λa b=>a*b) ws row)[j]?=some (n*m):=by rw[bu,en,em]
    rw[take_snoc ez];exact bV (Paired.imp' (λ_ _ z=>z.same (s1.trans s3)) hP) (.cons h3 .nil)
   rintro zs H4 hy ⟨s4,hP⟩ l4 hl4;rw[aE (by rw[bo];lia)] at hP;have s5:aI H4 (upd H4 l4 (.lst zs)):=aI.new hl4;have g5:(upd H4 l4 (.lst zs)) l4=some (.lst zs):=aJ;generalize upd H4 l4 (.lst zs)=H5 at s5 g5 ⊢;have s45:=s4.trans s5;have R5:cz K H5 l4 (List.zipWith (λa b=>a*b) ws row):=⟨zs,g5,Paired.imp' (λ_ _ z=>z.same s5) hP⟩;have s35:=s'.trans s45;exists ⟨tn,dt,_,rfl,s35 _ _ gt,Ng,?_⟩;exists ⟨tn,yv,_,_,lk,pt,_,rfl,S3.same s35,D.turn,SF.turn,Ryv.same s45,by rw[lpw,et],FP,λr6 H6 n6 s6 R6=>?_⟩;exists ⟨_,_,yH,_,_,by decide,(R5.same s6).kind,R6.kind,?_⟩;have TR:=Sa (s:=i) D lr lw lo;have s36:=s35.trans s6;by_cases hc:List.zipWith (λa b=>a*b) ws row=L2.seenQ pt (d6 (cp mv mv.length) i pr)
   rotate_left
   ·rw[decide_eq_false hc];exists k false H6 (s03.trans s36) ⟨λz=>(by cases z),λz=>absurd (TR.mpr λk hk=>by rw[<- erv];exact z.2 i k (by lia) hk) hc⟩
   rw[decide_eq_true hc];have hc':=TR.mp hc;exists ⟨tn,Z.a_System,dt,_,_,rfl,s36 _ _ gt,T.cl_System,T.na_move,qY,?_⟩;exists ⟨am,yv,_,_,_,rfl,Gm.same s36,Ryv.same (s45.trans s6),by lia,by lia,λxs hx=>⟨by rw[lpw,iB xs hx],.sys (SF.turn.fits λy hy=>.inl ⟨xs,hx,hy⟩) FP⟩,λr7 H7 n7 s7 R7=>?_⟩;refine ⟨s36.trans s7,r7,_,rfl,R7,λs' k' h1 h2=>?_⟩;rcases cN s' i with z | z
   ·exact hT s' k' z h2
   ·obtain rfl:s'=i:=by lia
    rw[erv];exact hc' k' h2
  ·rintro σ' H' ⟨s',yv,z,rfl,Ryv,hT⟩;exists k true H' (s03.trans s') ⟨λ_=>⟨he,λs k hs hk=>hT s k (by lia) hk⟩,λ_=>rfl⟩
theorem Aw:aU ["rows","wide","found"] ["rows","wide"] (aN xH):=by walk_at "d"
theorem AX (T:Txt K mg Z) (ptree:P.given.tree=none):cK P w K mg base fK 5 Z.DZ Z.DJ ["rows","wide"] (yz K):=by
 have Fq:=GO (P:=P) (w:=w) (base:=base) T ptree;have gU:=kj (P:=P) (w:=w) (base:=base) T ptree;refine T.pQ.F.ok Aw (λvs H Q E h=>?_) (λcdv A outer s H vs Q E hr h=>?_)
 ·obtain ⟨p,n,w,H0,rows,rfl,_⟩:=h;rfl
 ·obtain ⟨p,n,w,H0,rows,rfl,G,r100,n100,hw,F,k⟩:=h
  refine ⟨_,(ar (aS (i:=2) Aw.nd rfl (Or.inl rfl) (cH Fq hr T.we (ae (pv 0) (ae (pv 1) ai))))
   (aA (aV (bX ["line","lead"] [] [] (lK rfl T.zip (ae (aW bU (pv 2) ak) (ae (aW bU (pv 2) ak) ai))) (λ_=>(kz K 2 (b9 (aO (i:=0) (show ND9 ["line","lead"] by decide +kernel) rfl (Or.inr rfl) (Or.inl rfl)) (b9 (aO (i:=1) (show ND9 ["line","lead"] by decide +kernel) rfl (Or.inr rfl) (Or.inl rfl)) fL)))) (λ_=>cw) (λ_=>(bX ["top"] ["line","lead"] [0,1] (AQ K (pv 0)) (λ_=>(aO (i:=0) (show ND9 ["top","line","lead"] by decide +kernel))) (λ_=>cw) (λ_=>(cH gU hr T.ja (ae (pv 0) (ae (aW (oM K (by rfl)) (pv 1) (pv 2)) ai)))))))))),?_⟩
  refine aQ (σ:=[some (.ref p),some (.int n),none]) rfl ?_;obtain ⟨_,_,_,_,_,_,_,_,r15,r89⟩:=id F;exists ⟨p,n,w,H0,rows,rfl,G,r100,n100,hw,F,λt lp qp R ps d ls H1 gt gq G1 s1 S=>?_⟩;obtain ⟨lR,wR,RR⟩:=id S.rr;have hl:=S.len;obtain ⟨_,xs,gx,qx⟩:=id G1;have lx:=qx.length;have lps:(eh ps).length=ps.length:=aj ..;have d0:(d:Rat)≠0:=λz=>S.d0 (uy z)
  have dsz:Sz 449950 d:=bp S.dsz (df (by decide) (by lia))
  have km:ps.length<=n:=by
   rcases cN n ps.length with z | z
   ·have inc:∀j,j < ps.length->j<=ps.getD j 0:=by
     intro j
     induction j with
     | zero=>intro _;exact bC _
     | succ j ih =>
      intro hj;have:=ih (by lia);have:=RR.inc j (j+1) (by lia) hj
      lia
    have h1:=inc (ps.length - 1) (by lia);have h2:=RR.low (ps.length - 1) (by lia)
    lia
   ·exact z
  exists ⟨⟨_,bF.of gx⟩,⟨_,bF.of gq⟩,?_⟩;refine mE (K:=K) (xs:=xs) (ws:=eh ps) (λi ys H'=>aI H1 H'/\Paired (cY K H1 H') (R.take i) ys) (aT (br (by lia))) (by lia) ⟨aI.refl _,.nil⟩ (λi ys H' _ ⟨s,_⟩=>⟨bF.of (s _ _ gx),bF.of (s _ _ gq)⟩) ?_ ?_
  ·rintro i v1 v2 ys H' r h1 h2 hy ⟨s,pr⟩ hr;obtain ⟨zs,ez,q,rfl,_,gq1⟩:=bT qx h1;have hi:i < ls.length:=(aK.mp ez).1;have mz:=ao ez;have wz:=S.wide zs mz
   obtain ⟨j,ej,rfl⟩:∃j:Nat,ps[i]?=some j/\V.int (j:Int)=v2:=by
    unfold eh at h2;rw[aB] at h2;cases e:ps[i]? with
    | none=>rw[e] at h2;cases h2
    | some x=>rw[e] at h2;exact ⟨x,rfl,cv h2⟩
   have ej':ps.getD i 0=j:=by rw[aa,ej];rfl
   have jn:j < n:=by have:=RR.low i (by lia);rw[ej'] at this;exact this
   have sr:aI H' (upd H' r (.tup [.ref q,.int j])):=aI.new hr;have gr:(upd H' r (.tup [.ref q,.int j])) r=some (.tup [.ref q,.int j]):=aJ;generalize upd H' r (.tup [.ref q,.int j])=H2 at sr gr ⊢;have s2:=s.trans sr;have iR:i < R.length:=by lia
   have eR:=af iR;have wRi:=wR _ (aM iR)
   have ed:zs.getD j 0=d:=by
    have h:=S.val i j;rw[M5 ez] at h;have u:=RR.unit i (by lia) i (by lia);rw[if_pos rfl,ej'] at u;rw[u,Ed] at h;exact dI.mp h
   have val:∀c,((zs.getD c 0:Int):Rat)=(d:Rat)*(R[i]).getD c 0:=λc=>by
    have h:=S.val i c;rw[M5 ez] at h;rw[h];unfold cU;rw[aa (l:=R),eR];rfl
   exists ⟨⟨_,bF.of (s2 _ _ gq1)⟩,?_⟩;refine fJ (K:=K) (xs:=zs.map V.int) (λc ys' H3=>aI H2 H3/\Paired (b6 K H3) ((R[i]).take c) ys') (aT (br (by rw[aj];lia))) ⟨aI.refl _,.nil⟩ (λc ys' H3 _ ⟨s3,_⟩=>bF.of ((s2.trans s3) _ _ gq1)) ?_ ?_
   ·rintro c x ys' H3 hx hlen ⟨s3,pr3⟩
    obtain ⟨z,ec,rfl⟩:∃z,zs[c]?=some z/\V.int z=x:=by
     rw[aB] at hx;cases e:zs[c]? with
     | none=>rw[e] at hx;cases hx
     | some x=>rw[e] at hx;exact ⟨x,rfl,cv hx⟩
    have hc:c < zs.length:=(aK.mp ec).1;have vc:=val c;have e1:zs.getD c 0=z:=by rw[aa,ec];rfl
    rw[e1] at vc;exists cn (bF.of ((s2.trans s3) _ _ gq1)) (Af (by lia)) ?_;rw[ed];exists ⟨z,d,rfl,S.d0,dsz,λr4 H4 s4 g4=>?_⟩;have ec':(R[i])[c]?=some ((R[i]).getD c 0):=by rw[aa,af (show c < (R[i]).length by lia)];rfl
    refine ⟨s3.trans s4,?_⟩;rw[take_snoc ec'];refine bV (Paired.imp' (λ_ _ z=>b6.same z s4) pr3) (.cons (b6.mk g4 ?_) .nil);rcases Int.lt_or_lt_of_ne S.d0 with hd | hd
    ·rw[if_pos hd,if_pos hd];refine mX (by lia) ?_;rw[eY,eY,vc];grind
    ·rw[if_neg (by lia),if_neg (by lia)];refine mX hd ?_;rw[vc];grind
   ·rintro ys' H3 hy' ⟨s3,pr3⟩ l4 hl4;have sn:aI H3 (upd H3 l4 (.lst ys')):=aI.new hl4;refine ⟨(s2.trans s3).trans sn,?_⟩;rw[take_snoc eR];rw[aE (by rw[aj];lia)] at pr3;exact bV (Paired.imp' (λ_ _ z=>cY.same z ((sr.trans s3).trans sn)) pr) (.cons ⟨l4,rfl,(s2.trans s3).none hl4,ys',aJ,Paired.imp' (λ_ _ z=>b6.same z sn) pr3⟩ .nil)
  ·rintro ys H' hy ⟨s,pr⟩ r hr;have sn:aI H' (upd H' r (.lst ys)):=aI.new hr;rw[aE (by lia)] at pr;refine k r R ps d.natAbs _ (s1.none (s.none hr)) ((s1.trans s).trans sn) ⟨ys,aJ,Paired.imp' (λ_ _ z=>(cY.weak z s1).same sn) pr,jD (H0:=H1) (rows:=R) ⟨H',hr,pr⟩⟩ S.rr S.km ?_ S.dsz S.tp;have:=S.d0
   lia
theorem l7:aU ["system","steps","lists","rows"] ["system","steps"] (aN nM):=by walk_at "d"
theorem AY (T:Txt K mg Z) (ptree:P.given.tree=none):cK P w K mg base fK 7 Z.uH Z.ui ["system","steps"] (Dp K Z.a_System):=by
 have yt:=AX (P:=P) (w:=w) (base:=base) T ptree;have qr:=uf (P:=P) (w:=w) (base:=base) T ptree;refine T.mi.F.ok l7 (λvs H Q E h=>?_) (λcdv A outer s H vs Q E hr h=>?_)
 ·obtain ⟨x,a,c,st,H0,mv,pt,lk,rfl,_⟩:=h;rfl
 ·obtain ⟨x,a,c,st,H0,mv,pt,lk,rfl,s1000,S,D,F,k⟩:=h
  refine ⟨_,(ar (aS (i:=2) l7.nd rfl (Or.inl rfl) (dc (ae (dc ai) ai)))
   (ar (AM PassesOwn.never (bw US (bL be (by rfl) T.len a7 (ae (pv 2) ai)) (pv 1) (bM _))
    (ar (aS (i:=3) l7.nd rfl (Or.inl rfl) (cH yt hr T.pQ (ae (bI jP (eP (pv 0) rfl) (cH qr hr T.kB (ae (pv 0) (ae (aW bA (pv 2) (t9 nK ak)) ai)))) (ae (eP (pv 0) rfl) ai))))
   (ar (dh (bw fH (bL be (by rfl) T.len a7 (ae (pv 3) ai)) (bL be (by rfl) T.len a7 (ae (aW bA (pv 2) (t9 nK ak)) ai)) (bM _)) (aA (aV (pv 2))) b8)
   (aA (ic (qH cx cD cC gQ (pv 2) (ae (pv 3) ai)))))))
   (aA (aV (pv 2))))),?_⟩
  refine aQ (σ:=[some (.ref x),some (.int st),none,none]) rfl ?_;obtain ⟨dx,a',b',c',gx,_,_,_,Ga,Gb,Gc⟩:=id S;have d8:=D.n8;have i4:=D.i4;have lP:=gR (mv:=mv) (pt:=pt) rfl D.pw;exists cS λq0 H1 s1 nq0 g1=>?_
  exists cS λl H2 s2 nl g2=>?_
  have s02:=s1.trans s2;have nl0:H l=none:=s1.none nl;obtain ⟨Hz,eHz⟩:∃Hz,Hz=upd H l (.lst []):=⟨_,rfl⟩;have zl:Hz l≠none:=by rw[eHz,aJ];exact λz=>nomatch z
  have zn:∀q,Hz q=none->H q=none/\q≠l:=λq h=>by
   have ne:q≠l:=λz=>zl (by rw[<- z];exact h)
   rw[eHz,bD ne] at h;exact ⟨h,ne⟩
  have nz:∀q,H q=none->q≠l->Hz q=none:=λq h ne=>by rw[eHz,bD ne];exact h
  clear eHz;have q0l:q0≠l:=λz=>by rw[z,nl] at g1;cases g1
  have G0:bB K Hz H2 q0 []:=⟨[],s2 _ _ g1,.nil,λz=>nomatch z⟩;exists Ei (λσ' H'=>aI H H'/\∃Rs R us y,σ'=[some (.ref x),some (.int st),some (.ref l),y]/\H' l=some (.lst us)/\Paired (λR v=>∃q,v=V.ref q/\Hz q=none/\bB K Hz H' q R) (Rs++[R]) us/\Ci mv pt (Rs++[R])/\Rs.length<=st) (λ_ H'=>match H' l with | some (.lst us)=>st+1 - us.length | _=>0) ⟨s02,[],[],_,_,rfl,g2,.cons ⟨q0,rfl,nz q0 nq0 q0l,G0⟩ .nil,⟨by simp,λt R e=>?_,λt R R' e e'=>?_⟩,bC _⟩ ?_
  ·have ht:=(aK.mp e).1;have:t=0:=by simpa using ht
   subst this;cases e;exact ⟨[],Sr⟩
  ·have ht:=(aK.mp e').1;simp at ht
  rintro σ' Ha ⟨sa,Rs,R,us,y,rfl,gu,pa,Gw,hst⟩;have lu:=pa.length;rw[aw,bJ] at lu;have eR:(Rs++[R])[Rs.length]?=some R:=by rw[bG (au _),jt];rfl
  obtain ⟨ps,RR⟩:=Gw.rr _ _ eR;have tn:Rs.length<=mv.length:=by have:=Gw.len _ _ eR;have:=RR.le;have:=RR.1;lia
  have fin:∀(Hx:Hp) (sx:aI Ha Hx) (hh:∀s,(Rs.length=st/\s=st\/Rs.length < st/\Rs.length<=s)->∃ps,cQ (kry mv pt s) mv.length R ps),Q (.ref l) Hx:=λHx sx hh=>by
   refine k l (Rs++[R]) Hx nl0 (sa.trans sx) ⟨us,sx _ _ gu,Paired.imp' (λ_ _ ⟨q,e1,e2,e3⟩=>⟨q,e1,(zn q e2).1,(zn q e2).2,bB.weakN (bB.same e3 sx) λq h=>(zn q h).1⟩) pa⟩ Gw (by rw[aw,bJ];lia) λR2 e2 s hs=>?_
   rw[List.getLast?_concat] at e2;cases e2;rw[aw,bJ,Nat.add_sub_cancel] at hs;exact hh s hs
  exists ⟨_,_,rfl,.inl (bF.of gu),?_⟩;exists iK (λh0=>?_) (λh0=>?_)
  ·have h0:=of_decide_eq_true h0;refine Ri ?_
   obtain ⟨zs,gS⟩:∃zs q,us=zs++[V.ref q]/\Hz q=none/\bB K Hz Ha q R:=by
    obtain ⟨v,ev,q,rfl,e2,e3⟩:∃v,us[Rs.length]?=some v/\∃q,v=V.ref q/\Hz q=none/\bB K Hz Ha q R:=by
     have ev:=af (show Rs.length < us.length by lia);obtain ⟨R2,e2,w⟩:=bT pa ev;rw[eR] at e2;cases e2;exact ⟨_,ev,w⟩
    refine ⟨us.take Rs.length,q,?_,e2,e3⟩;rw[<- take_snoc ev,aE (by lia)]
   obtain ⟨q,rfl,zq,Gq⟩:=gS;have gxa:=sa _ _ gx;exists ⟨x,Z.a_System,dx,_,_,rfl,gxa,T.cl_System,T.na_put,zP,?_⟩;exists cn (bF.of gu) (oR _ _) ?_;have wR:=RR.2.1;have lR:=RR.1;have pn:=RR.le;exists ⟨x,q,H0,Hz,mv,pt,lk,R,rfl,S.same sa,D,Gq,by lia,wR,F.fit d8 D.mw D.pw tn RR,λmr Hb nmr sb Gm=>?_⟩;obtain ⟨pv,gpv,qpv,_⟩:=Gb.same (sa.trans sb);obtain ⟨mvs,gmv,qmv,_⟩:=id Gm;have lpv:=qpv.length;have lmv:=qmv.length;rw[aj] at lmv;exists kW gpv gmv (aT (br (by lia))) λcr Hc sc nc gc=>?_
   have sab:=sa.trans (sb.trans sc);have Gc':bB K (λ_=>none) Hc cr (pt++R.map (mJ mv)):=DF (H:=Hb) (bV (Paired.imp' (λ_ _ ⟨q,e1,e2,e3⟩=>⟨q,e1,rfl,e3⟩) qpv) (Paired.imp' (λ_ _ ⟨q,e1,e2,e3⟩=>⟨q,e1,rfl,e3⟩) qmv)) sc nc gc;exists ⟨x,Z.a_System,dx,_,_,rfl,sab _ _ gx,T.cl_System,T.na_states,ia,?_⟩;exists ⟨cr,mv.length,_,_,_,rfl,Gc',by rw[aw,aj];lia,by lia,λxs hx=>?_,F.step d8 D.mw D.pw tn RR,λrr R' ps' M' Hd nrr sd G' RR' pm' _ _ _=>?_⟩
   ·rcases aH.mp hx with hx | hx
    ·exact D.pw xs hx
    ·obtain ⟨y,_,rfl⟩:=az.mp hx;exact rZ
   have sbd:=sb.trans (sc.trans sd);have sad:=sa.trans sbd;have K1:=Bo rfl D.mw D.pw RR RR';have gud:=sbd _ _ gu;obtain ⟨rv,grv,qrv,_⟩:=id G';have lrv:=qrv.length;have lR':=RR'.1;have pn':=RR'.le;exists ⟨_,_,rfl,.inl (bF.of grv),?_⟩;exists cn (bF.of gud) (oR _ _) ?_;obtain ⟨ov,gov,qov,_⟩:=Gq.same sbd;have lov:=qov.length;exists ⟨_,_,rfl,.inl (bF.of gov),?_⟩;exists iK (λh1=>?_) (λh1=>?_)
   ·have h1:=of_decide_eq_true h1;exists fin Hd sbd λs hs=>⟨ps,?_⟩
    obtain ⟨s',rfl⟩:∃s',s=Rs.length+s':=⟨s - Rs.length,by lia⟩;exact Ml rfl D.mw D.pw RR RR' (by lia) s'
   ·have h1:¬((rv.length:Int)=ov.length):=λz=>h1 (decide_eq_true z)
    have gr:=Ol rfl D.mw D.pw RR K1;have rl:rr≠l:=λz=>by rw[z,(sb.trans sc) _ _ gu] at nrr;cases nrr
    have zc:∀q,Hc q=none->Hz q=none:=λq h=>nz q (sab.none h) (λz=>by rw[z,(sb.trans sc) _ _ gu] at h;cases h)
    exists ⟨.inl ⟨rfl,_,bF.of gud⟩,?_⟩;exists gL gud (br (by lia)) ?_;refine ⟨⟨sad.after nl0,Rs++[R],R',_,_,rfl,aJ,bV (Paired.imp' (λ_ _ ⟨q,e1,e2,e3⟩=>⟨q,e1,e2,bB.updL (bB.same e3 sbd) gud zl (zn q e2).2⟩) pa) (.cons ⟨rr,rfl,zc rr nrr,bB.updL (G'.weakN zc) gud zl rl⟩ .nil),Gw.snoc K1 (by lia),by rw[aw,bJ];lia⟩,?_⟩;simp only[gu,aJ,aw,bJ] at lu h0 ⊢
    lia
  ·have h0:¬((us.length:Int)<=st):=λz=>h0 (decide_eq_true z)
   walk_at "w"
   exact fin Ha (aI.refl _) λs hs=>⟨ps,by
    have:s=Rs.length:=by lia
    rw[this];exact RR⟩
theorem Cv:aU ["system","steps"] ["system","steps"] (aN o7):=by walk_at "d"
theorem CC (T:Txt K mg Z) (ptree:P.given.tree=none):cK P w K mg base fK 8 Z.xa Z.wH ["system","steps"] (C8 K Z.a_System):=by
 have CO:=AY (P:=P) (w:=w) (base:=base) T ptree;refine T.oj.F.ok Cv (λvs H Q E h=>?_) (λcdv A outer s H vs Q E hr h=>?_)
 ·obtain ⟨x,a,c,st,H0,mv,pt,lk,rfl,_⟩:=h;rfl
 ·obtain ⟨x,a,c,st,H0,mv,pt,lk,rfl,s1000,S,D,F,k⟩:=h;refine ⟨_,(aA (aV (aW bA (cH CO hr T.mi (ae (pv 0) (ae (pv 1) ai))) (t9 nK ak)))),?_⟩;refine aQ (σ:=[some (.ref x),some (.int st)]) rfl ?_;exists ⟨x,a,c,st,H0,mv,pt,lk,rfl,s1000,S,D,F,λr Rs H1 nr s1 ⟨us,gu,pa⟩ Gw hl hh=>?_⟩;have lu:=pa.length;obtain ⟨Rs',R,rfl⟩:∃Rs' R,Rs=Rs'++[R]:=⟨Rs.dropLast,Rs.getLast Gw.ne,(List.dropLast_concat_getLast Gw.ne).symm⟩;rw[aw,bJ] at lu hl;have eR:(Rs'++[R])[Rs'.length]?=some R:=by rw[bG (au _),jt];rfl
  obtain ⟨zs,q,rfl,zq,ql,Gq⟩:∃zs q,us=zs++[V.ref q]/\H q=none/\q≠r/\bB K H H1 q R:=by
   have ev:=af (show Rs'.length < us.length by lia);obtain ⟨R2,e2,q,e3,e4,e5,e6⟩:=bT pa ev;rw[eR] at e2;cases e2;rw[e3] at ev;refine ⟨us.take Rs'.length,q,?_,e4,e5,e6⟩;rw[<- take_snoc ev,aE (by lia)]
  obtain ⟨ps,RR⟩:=hh R (by rw[List.getLast?_concat]) st (by rw[aw,bJ,Nat.add_sub_cancel];lia);exists cn (bF.of gu) (oR _ _) ?_;exact k q R ps H1 zq s1 Gq RR
theorem Gi:aU ["many","at"] ["many","at"] (aN uY):=by walk_at "d"
theorem GK (T:Txt K mg Z) (ptree:P.given.tree=none):cK P w K mg base fK 1 Z.BX Z.BJ ["many","at"] (FU K):=by
 refine T.so.F.ok Gi (λvs H Q E h=>?_) (λcdv A outer s H vs Q E hr h=>?_)
 ·obtain ⟨m,a',rfl,_⟩:=h;rfl
 ·obtain ⟨m,a',rfl,hm,k⟩:=h;refine ⟨_,(aA (aV (bX ["place"] ["at"] [1] (cE rfl T.range (ae (pv 0) ai)) (λ_=>(aO (i:=0) (show ND9 ["place","at"] by decide +kernel))) (λ_=>cw) (λ_=>(NT (bw fH (pv 0) (pv 1) (bM _)) (lM (v:=.ref Z.a_ONE) rfl T.mg_ONE rfl) (lM (v:=.ref Z.a_NOUGHT) rfl T.mg_NOUGHT rfl)))))),?_⟩;refine aQ (σ:=[some (.int m),some (.int a')]) rfl ?_;exists ⟨by lia,by lia,?_⟩;refine jc (n:=m) (b6 K) (λi=>if ((i:Nat):Int)=a' then 1 else 0) hm (λa b=>a.same b) ?_ ?_
  ·rintro i H' NY NN hi s k1;exists iK (λh0=>?_) (λh0=>?_)
   ·exists k1 _ _ (aI.refl _) (by rw[if_pos (of_decide_eq_true h0)];exact ⟨_,rfl,T.sq_ONE _⟩)
   ·exists k1 _ _ (aI.refl _) (by rw[if_neg (λz=>h0 (decide_eq_true z))];exact ⟨_,rfl,T.sq_NOUGHT _⟩)
  ·rintro ys H' l hl s g pr nx;exact k l _ hl s ⟨ys,g,pr⟩
theorem xC:aU ["row"] ["row"] (aN kT):=by walk_at "d"
theorem xU (T:Txt K mg Z) (ptree:P.given.tree=none):cK P w K mg base fK 1 Z.qM Z.qJ ["row"] (F7 K):=by
 refine T.kr.F.ok xC (λvs H Q E h=>?_) (λcdv A outer s H vs Q E hr h=>?_)
 ·obtain ⟨p,xs,j,rfl,_⟩:=h;rfl
 ·obtain ⟨p,xs,j,rfl,R,x1000,hj,hne,hz,k⟩:=h;refine ⟨_,(aA (aV (bL (Mx rfl) (by rfl) T.min PyProof.Rows.boot_min (ae (bX ["place","value"] [] [] (KG rfl T.enumerate (ae (pv 0) ai)) (λ_=>(kz K 2 (b9 (aO (i:=0) (show ND9 ["place","value"] by decide +kernel)) (b9 (aO (i:=1) (show ND9 ["place","value"] by decide +kernel)) fL)))) (λ_=>NR (bw (Qq K (by rfl) (CK hr)) (pv 1) (lM (v:=.ref Z.a_NOUGHT) rfl T.mg_NOUGHT rfl) (bM _))) (λ_=>(pv 0))) ai)))),?_⟩;refine aQ (σ:=[some (.ref p)]) rfl ?_;obtain ⟨zs,gz,qz⟩:=id R;have lz:=qz.length;exists ⟨⟨_,bF.of gz⟩,?_⟩;refine Mw (K:=K) (xs:=zs) (λi ys H'=>aI H H'/\ys=eh (MJ xs i)) (aT (br (by lia))) ⟨aI.refl _,rfl⟩ (λi ys H' _ ⟨s,_⟩=>bF.of (s _ _ gz)) ?_ ?_
  ·rintro i v ys H' r hx hlen ⟨s',rfl⟩ hr;obtain ⟨y,ey,ny⟩:=bT qz hx;have ey':xs.getD i 0=y:=by rw[aa,ey];rfl
   have sr:aI H' (upd H' r (.tup [.int i,v])):=aI.new hr;have gr:(upd H' r (.tup [.int i,v])) r=some (.tup [.int i,v]):=aJ;generalize upd H' r (.tup [.int i,v])=H2 at sr gr ⊢;exists ⟨_,_,Om,y,0,by decide,(ny.same s').same sr,⟨_,rfl,T.sq_NOUGHT _⟩,?_⟩;by_cases e:y=0
   ·rw[decide_eq_true e];exists ⟨s'.trans sr,?_⟩;rw[KO,ey',if_neg (by simpa using e)]
   ·rw[decide_eq_false e];exists ⟨s'.trans sr,?_⟩;rw[KO,ey',if_pos e];unfold eh;rw[b7];rfl
  ·rintro ys H1 hy ⟨s1,rfl⟩ l hl;have sn:aI H1 (upd H1 l (.lst (eh (MJ xs zs.length)))):=aI.new hl;have gn:(upd H1 l (.lst (eh (MJ xs zs.length)))) l=some (.lst (eh (MJ xs zs.length))):=aJ;generalize upd H1 l (.lst (eh (MJ xs zs.length)))=H2 at sn gn ⊢
   have mj:j∈MJ xs zs.length:=by
    unfold MJ;exact qU.mpr ⟨kf.mpr (by lia),by simpa using hne⟩
   exists ⟨l,K3 (MJ xs zs.length),rfl,bF.of (by rw[<- Mf];exact gn),?_,λM hM hle=>?_⟩
   ·unfold K3;rw[aj];exact List.length_pos_of_mem mj
   ·obtain ⟨c,hc,rfl⟩:=az.mp hM;have h1:=hle j (az.mpr ⟨j,mj,rfl⟩);have h2:=(qU.mp hc).2
    have e:c=j:=by
     rcases kb c j with z | z | z
     ·exact absurd (hz c z) (of_decide_eq_true h2)
     ·exact z
     ·lia
    rw[e];exact k _ (s1.trans sn)
theorem Jf:aU ["rows"] ["rows"] (aN xK):=by walk_at "d"
theorem A0 (T:Txt K mg Z) (ptree:P.given.tree=none):cK P w K mg base fK 2 Z.D5 Z.DM ["rows"] (F8 K):=by
 have zL:=xU (P:=P) (w:=w) (base:=base) T ptree;refine T.pR.F.ok Jf (λvs H Q E h=>?_) (λcdv A outer s H vs Q E hr h=>?_)
 ·obtain ⟨p,n,H0,R,ps,rfl,_⟩:=h;rfl
 ·obtain ⟨p,n,H0,R,ps,rfl,G,r100,n100,⟨rows,RR⟩,k⟩:=h;refine ⟨_,(aA (aV (bX ["row"] [] [] (cB (pv 0)) (λ_=>(aO (i:=0) (show ND9 ["row"] by decide +kernel))) (λ_=>cw) (λ_=>(cH zL hr T.kr (ae (pv 0) ai)))))),?_⟩;refine aQ (σ:=[some (.ref p)]) rfl ?_;obtain ⟨lR,wR,rr⟩:=id RR;obtain ⟨xs,gx,qx,_⟩:=id G;have lx:=qx.length;exists ⟨⟨_,bF.of gx⟩,?_⟩;refine fJ (K:=K) (xs:=xs) (λi ys H'=>aI H H'/\ys=eh (ps.take i)) (aT (br (by lia))) ⟨aI.refl _,rfl⟩ (λi ys H' _ ⟨s,_⟩=>bF.of (s _ _ gx)) ?_ ?_
  ·rintro i v ys H' hx hlen ⟨s',rfl⟩;obtain ⟨row,er,q,rfl,_,Rr⟩:=bT qx hx;have wr:=wR row (ao er);have hi:i < ps.length:=by have:=(aK.mp er).1;lia
   have ef:∀c,cU R i c=row.getD c 0:=λc=>by unfold cU;rw[aa (l:=R),er];rfl
   have ep:ps[i]?=some (ps.getD i 0):=by rw[aa,af hi];rfl
   have lowp:=rr.low i hi;have u:=rr.unit i hi i hi;rw[if_pos rfl,ef] at u;exists ⟨q,row,ps.getD i 0,rfl,Rr.same s',by lia,by lia,by rw[u];decide,λc hc=>by rw[<- ef];exact rr.lead i hi c hc,λH2 s2=>?_⟩;refine ⟨s'.trans s2,?_⟩;unfold eh;rw[take_snoc ep,b7];rfl
  ·rintro ys H1 hy ⟨s1,rfl⟩ r hr;refine k r _ (s1.none hr) (s1.trans (aI.new hr)) ?_;rw[aJ,aE (by lia)]
theorem o5:aU ["rows","wide","at","answer","lead","row"] ["rows","wide","at"] (aN xJ):=by walk_at "d"
theorem Jw (T:Txt K mg Z) (ptree:P.given.tree=none):cK P w K mg base fK 4 Z.D4 Z.DL ["rows","wide","at"] (De K):=by
 have J5:=GK (P:=P) (w:=w) (base:=base) T ptree;have yu:=A0 (P:=P) (w:=w) (base:=base) T ptree;have Fu:=GQ (P:=P) (w:=w) (base:=base) T ptree;refine T.vE.F.ok o5 (λvs H Q E h=>?_) (λcdv A outer s H vs Q E hr h=>?_)
 ·obtain ⟨p,n,a,H0,R,ps,rfl,_⟩:=h;rfl
 ·obtain ⟨p,n,a,H0,R,ps,rfl,G,r100,n100,⟨rows,RR⟩,ha,hp,hz,k⟩:=h
  refine ⟨_,(ar (aS (i:=3) o5.nd rfl (Or.inl rfl) (cH J5 hr T.so (ae (pv 1) (ae (pv 2) ai))))
   (ar (dR PassesOwn.never rfl (lK rfl T.zip (ae (cH yu hr T.pR (ae (pv 0) ai)) (ae (pv 0) ai))) (rX rfl (b9 (aO (i:=4) o5.nd) (b9 (aO (i:=5) o5.nd) fL)))
    (aA (fB (cH Fu hr T.wg (ae (lM (v:=.ref Z.a_NOUGHT) rfl T.mg_NOUGHT rfl) (ae (aW bA (pv 5) (pv 2)) ai))) (gP (pv 3) (pv 4) set_list))))
   (aA (aV (pv 3))))),?_⟩
  refine aQ (σ:=[some (.ref p),some (.int n),some (.int a),none,none,none]) rfl ?_;obtain ⟨lR,wR,rr⟩:=id RR;exists ⟨n,a,rfl,by lia,λan H1 na s1 R1=>?_⟩;rw[<- Qw (R:=R) (ps:=ps)] at R1;obtain ⟨vs0,g0,q0⟩:=id R1;exists ⟨p,n,H0,R,ps,rfl,G.same s1,r100,n100,⟨rows,RR⟩,λle H2 nl s2 g2=>?_⟩;have anl:le≠an:=λz=>by rw[z,g0] at nl;cases nl
  obtain ⟨rs,grs,qrs,_⟩:=id G;have lrs:=qrs.length;have lps:=wd (ps:=ps);exists ⟨⟨_,bF.of g2⟩,⟨_,bF.of ((s1.trans s2) _ _ grs)⟩,?_⟩;refine K8 (K:=K) (xs:=eh ps) (ws:=rs) (λj σ' H'=>aI H H'/\H' le=some (.lst (eh ps))/\∃y1 y2 vs,σ'=[some (.ref p),some (.int n),some (.int a),some (.ref an),y1,y2]/\H' an=some (.lst vs)/\Paired (b6 K H') (MK R ps n a j) vs) (by lia) ⟨s1.trans s2,g2,_,_,vs0,rfl,s2 _ _ g0,Paired.imp' (λ_ _ z=>b6.same z s2) q0⟩ (λj σ' H' _ ⟨e,e2,_⟩=>⟨bF.of e2,bF.of (e _ _ grs)⟩) ?_ ?_
  ·rintro j v1 v2 σ' H' r h1 h2 ⟨s',gl,y1,y2,vs,rfl,ga,qa⟩ hr;obtain ⟨row,er,q,rfl,_,Rr⟩:=bT qrs h2;have mr:=ao er;have wr:=wR row mr;obtain ⟨pj,ej,rfl⟩:=E3 h1;have hj:j < ps.length:=(aK.mp ej).1;have ejD:ps.getD j 0=pj:=by rw[aa,ej];rfl
   have pjn:pj < n:=by have:=rr.low j hj;rw[ejD] at this;exact this
   have fr:cU R j a=row.getD a 0:=by unfold cU;rw[aa (l:=R),er];rfl
   have sr:aI H' (upd H' r (.tup [.int pj,.ref q])):=aI.new hr;have gr:(upd H' r (.tup [.int pj,.ref q])) r=some (.tup [.int pj,.ref q]):=aJ;generalize upd H' r (.tup [.int pj,.ref q])=H3 at sr gr ⊢;have s03:=s'.trans sr;obtain ⟨us,gu,qu⟩:=Rr.same s03;obtain ⟨vx,ex,nx⟩:=ML qu (j:=a) (by lia);exists cn (bF.of gu) ex ?_;exists ⟨_,_,0,row.getD a 0,rfl,⟨_,rfl,T.sq_NOUGHT _⟩,nx,Nf,hz row mr _ (getD_in (by lia)),λr4 H4 s4 n4=>?_⟩;have ga4:=(sr.trans s4) _ _ ga;have gl4:=(sr.trans s4) _ _ gl;have la:=qa.length;rw[vC] at la;exists eN ga4 (fh (by lia)) rfl ?_;refine ⟨(s03.trans s4).after na,by rw[bD anl];exact gl4,_,_,_,rfl,aJ,?_⟩;rw[<- Qx RR hj hp,ejD,fr,show -(row.getD a 0)=0 - row.getD a 0 by grind];exact jx (Paired.imp' (λ_ _ z=>(b6.same z (sr.trans s4)).updL ga4) qa) pj (n4.updL ga4)
  ·rintro σ' H' ⟨s',gl,y1,y2,vs,rfl,ga,qa⟩;rw[lps] at qa;exists k an H' na s' ⟨vs,ga,qa⟩
theorem rh:aU ["rows","wide","leads"] ["rows","wide"] (aN nR):=by walk_at "d"
theorem sk (T:Txt K mg Z) (ptree:P.given.tree=none):cK P w K mg base fK 3 Z.uK Z.uo ["rows","wide"] (Gd K):=by
 have yu:=A0 (P:=P) (w:=w) (base:=base) T ptree;refine T.jT.F.ok rh (λvs H Q E h=>?_) (λcdv A outer s H vs Q E hr h=>?_)
 ·obtain ⟨p,n,H0,R,ps,rfl,_⟩:=h;rfl
 ·obtain ⟨p,n,H0,R,ps,rfl,G,r100,n100,RR,k⟩:=h
  refine ⟨_,(ar (aS (i:=2) rh.nd rfl (Or.inr rfl) (cH yu hr T.pR (ae (pv 0) ai)))
   (aA (aV (bX ["place"] ["leads"] [2] (cE rfl T.range (ae (pv 1) ai)) (λ_=>(aO (i:=0) (show ND9 ["place","leads"] by decide +kernel))) (λ_=>NR (bw (CA K (by rfl)) (pv 0) (pv 1) (by with_unfolding_all rfl))) (λ_=>(pv 0)))))),?_⟩
  refine aQ (σ:=[some (.ref p),some (.int n),none]) rfl ?_;exists ⟨p,n,H0,R,ps,rfl,G,r100,n100,RR,λl H1 nl s1 g1=>?_⟩;exists ⟨by lia,by lia,?_⟩;refine qj (n:=n) (λi ys H'=>aI H1 H'/\ys=eh (IL ps i)) (aT (br (by lia))) ⟨aI.refl _,rfl⟩ ?_ ?_
  ·rintro i ys H' hi hlen ⟨s',rfl⟩;rw[Ae];exists ⟨l,eh ps,rfl,.inl (bF.of (s' _ _ g1)),rfl,DB,?_⟩;rw[Hu];by_cases e:i∈ps
   ·rw[decide_eq_true e];exists ⟨s',?_⟩;rw[Hw,if_neg (by simpa using e)]
   ·rw[decide_eq_false e,show (if true=true then !false else false)=true from rfl];exists ⟨s',?_⟩;rw[Hw,if_pos e];unfold eh;rw[b7];rfl
  ·rintro ys H2 hy ⟨s2,rfl⟩ r hr;exact k r _ (s1.none (s2.none hr)) ((s1.trans s2).trans (aI.new hr)) aJ
theorem Gj:aU ["rows","wide","basis"] ["rows","wide"] (aN EH):=by walk_at "d"
theorem N3 (T:Txt K mg Z) (ptree:P.given.tree=none):cK P w K mg base fK 6 Z.Lu Z.Lj ["rows","wide"] (Dc K):=by
 have yt:=AX (P:=P) (w:=w) (base:=base) T ptree;have MD:=Jw (P:=P) (w:=w) (base:=base) T ptree;have oC:=sk (P:=P) (w:=w) (base:=base) T ptree;refine T.Bg.F.ok Gj (λvs H Q E h=>?_) (λcdv A outer s H vs Q E hr h=>?_)
 ·obtain ⟨p,n,w,H0,rows,R,ps,rfl,_⟩:=h;rfl
 ·obtain ⟨p,n,w,H0,rows,R,ps,rfl,G,r100,n100,RR,F,szR,k⟩:=h
  refine ⟨_,(ar (aS (i:=2) Gj.nd rfl (Or.inr rfl) (cH yt hr T.pQ (ae (pv 0) (ae (pv 1) ai))))
   (aA (aV (bX ["at"] ["basis","wide"] [2,1] (cB (cH oC hr T.jT (ae (pv 2) (ae (pv 1) ai)))) (λ_=>(aO (i:=0) (show ND9 ["at","basis","wide"] by decide +kernel))) (λ_=>cw) (λ_=>(cH MD hr T.vE (ae (pv 1) (ae (pv 2) (ae (pv 0) ai))))))))),?_⟩
  refine aQ (σ:=[some (.ref p),some (.int n),none]) rfl ?_;exists ⟨p,n,w,H0,R,rfl,G,r100,n100,RR.2.1,F,λba R2 ps2 M H1 nb s1 G1 RR2 pm M0 M1 tM=>?_⟩;obtain ⟨rfl,rfl⟩:=RR2.same (PH RR);have pn:=RR.le;have lR:=RR.1;have fl:=JL (ps:=ps2) (i:=n);exists ⟨ba,n,H,R2,ps2,rfl,G1,by lia,by lia,⟨rows,RR⟩,λfr H2 nf s2 g2=>?_⟩;exists ⟨⟨_,bF.of g2⟩,?_⟩;refine fJ (K:=K) (xs:=eh (IL ps2 n)) (λi ys H'=>aI H2 H'/\Paired (cY K H H') ((IL ps2 n).take i |>.map (UW R2 ps2 n)) ys) (aT (br (by rw[wd];lia))) ⟨aI.refl _,.nil⟩ (λi ys H' _ ⟨s,_⟩=>bF.of (s _ _ g2)) ?_ ?_
  ·rintro i v ys H' hx hlen ⟨s',pr⟩;obtain ⟨a,ea,rfl⟩:=E3 hx;obtain ⟨an,ap⟩:=Fd.mp (ao ea);have s02:=(s1.trans s2).trans s';exists ⟨ba,n,a,H,R2,ps2,rfl,(G1.same s2).same s',by lia,by lia,⟨rows,RR⟩,an,ap,szR,λr H3 nr s3 R3=>?_⟩;refine ⟨s'.trans s3,?_⟩;rw[take_snoc ea,b7];exact bV (Paired.imp' (λ_ _ z=>cY.same z s3) pr) (.cons ⟨r,rfl,s02.none nr,R3⟩ .nil)
  ·rintro ys H3 hy ⟨s3,pr⟩ r hr;rw[aE (by rw[wd];exact au _)] at pr;have sn:aI H3 (upd H3 r (.lst ys)):=aI.new hr;have s03:=(s1.trans s2).trans s3;exact k r _ (s03.none hr) (s03.trans sn) ⟨ys,aJ,Paired.imp' (λ_ _ z=>cY.same z sn) pr,jD (H0:=H) (rows:=mh R2 ps2 n) ⟨H3,hr,pr⟩⟩
theorem Cu:aU ["system","rows"] ["system","rows"] (aN o6):=by walk_at "d"
theorem CB (T:Txt K mg Z) (ptree:P.given.tree=none):cK P w K mg base fK 7 Z.wZ Z.wF ["system","rows"] (C4 K Z.a_System):=by
 have qv:=ug (P:=P) (w:=w) (base:=base) T ptree;refine T.oi.F.ok Cu (λvs H Q E h=>?_) (λcdv A outer s H vs Q E hr h=>?_)
 ·obtain ⟨x,p,H0,H1,mv,pt,lk,N,rfl,_⟩:=h;rfl
 ·obtain ⟨x,p,H0,H1,mv,pt,lk,N,rfl,S,D,GN,n100,hN,k⟩:=h;refine ⟨_,(aA (aV (cH qv hr T.kC (ae (pv 1) (ae (eP (pv 0) rfl) (ae (eP (pv 0) rfl) ai)))))),?_⟩;refine aQ (σ:=[some (.ref x),some (.ref p)]) rfl ?_;obtain ⟨dx,am,ap,al,gx,_,_,_,Gm,_,_⟩:=id S;have d1:=D.n8;exists ⟨x,Z.a_System,dx,_,_,rfl,gx,T.cl_System,T.na_move,qY,?_⟩;exists ⟨x,Z.a_System,dx,_,_,rfl,gx,T.cl_System,T.na_states,ia,?_⟩;exists ⟨p,am,mv.length,H1,H0,N,mv,rfl,GN,Gm,by lia,by lia,by lia,hN,D.mw,k⟩
theorem lI:aU ["system","reach","rows","places"] ["system"] (aN rz):=by walk_at "d"
theorem EO (T:Txt K mg Z) (ptree:P.given.tree=none):cK P w K mg base fK 9 Z.y7 Z.yJ ["system"] (C3 K Z.a_System):=by
 have Fs:=CC (P:=P) (w:=w) (base:=base) T ptree;have Q1:=N3 (P:=P) (w:=w) (base:=base) T ptree;have oC:=sk (P:=P) (w:=w) (base:=base) T ptree;have Fp:=CB (P:=P) (w:=w) (base:=base) T ptree;refine T.pO.F.ok lI (λvs H Q E h=>?_) (λcdv A outer s H vs Q E hr h=>?_)
 ·obtain ⟨x,a,c,H0,mv,pt,lk,rfl,_⟩:=h;rfl
 ·obtain ⟨x,a,c,H0,mv,pt,lk,rfl,S,D,KF,k⟩:=h
  refine ⟨_,(ar (aS (i:=1) lI.nd rfl (Or.inl rfl) (cH Fs hr T.oj (ae (pv 0) (ae (eP (pv 0) rfl) ai))))
   (ar (aS (i:=2) lI.nd rfl (Or.inl rfl) (cH Q1 hr T.Bg (ae (pv 1) (ae (eP (pv 0) rfl) ai))))
   (ar (aS (i:=3) lI.nd rfl (Or.inr rfl) (cH oC hr T.jT (ae (pv 1) (ae (eP (pv 0) rfl) ai))))
   (aA (aV (cW (ae (pv 2) (ae (bX ["row"] ["places"] [3] (cB (cH Fp hr T.oi (ae (pv 0) (ae (pv 2) ai)))) (λ_=>(aO (i:=0) (show ND9 ["row","places"] by decide +kernel) rfl (Or.inr rfl) (Or.inl rfl))) (λ_=>cw) (λ_=>(bX ["place"] ["row"] [0] (AQ K (pv 1)) (λ_=>(aO (i:=0) (show ND9 ["place","row"] by decide +kernel))) (λ_=>cw) (λ_=>(aW (oM K (by rfl)) (pv 1) (pv 0)))))) ai)))))))),?_⟩
  refine aQ (σ:=[some (.ref x),none,none,none]) rfl ?_;obtain ⟨dx,am,ap,al,gx,_,_,_,Gm,_,_⟩:=id S;have d1:=D.n8;exists ⟨x,Z.a_System,dx,_,_,rfl,gx,T.cl_System,T.na_states,ia,?_⟩;exists ⟨x,a,c,mv.length,H0,mv,pt,lk,rfl,by lia,S,D,KF,λrr R ps H1 nr s1 G1 RR=>?_⟩;obtain ⟨Mq,q0,q1,tR⟩:=KF.tp d1 D.mw D.pw (au _) RR;obtain ⟨Mk,Vk,k0,ka,kc,gm,gp,a4,c4,k17,k89⟩:=id KF;have e17:(2:Nat)^(mv.length*(mv.length*(a+c)+4))<=2^1740:=av (by decide) k17;have pn:=RR.le;have lR:=RR.1
  have SR:FE R mv.length (mv.length*(mv.length*(a+c)+4)):=Sh q0 (ag q1 (av (by decide) (by lia))) (by lia) tR (m:=mv.length) (by lia) (by lia) (by
   refine ag (aD _ ?_) k89
   lia)
  have szR:∀xs∈R,∀x∈xs,kN x:=λxs hx x hx'=>oY (tR xs hx x hx') q0 (ag q1 (ag e17 (av (by decide) (by decide)))) (ag e17 (av (by decide) (by decide)))
  have gx1:=s1 _ _ gx;exists ⟨x,Z.a_System,dx,_,_,rfl,gx1,T.cl_System,T.na_states,ia,?_⟩;exists ⟨rr,mv.length,_,H,_,R,ps,rfl,G1,by lia,by lia,RR,SR,szR,λnn H2 nn0 s2 G2=>?_⟩;have s12:=s1.trans s2;have gx2:=s12 _ _ gx
  have lN:(mh R ps mv.length).length<=mv.length:=by
   have e:(mh R ps mv.length).length=(IL ps mv.length).length:=aj ..;rw[e];exact JL
  have fl:=JL (ps:=ps) (i:=mv.length);exists ⟨x,Z.a_System,dx,_,_,rfl,gx2,T.cl_System,T.na_states,ia,?_⟩;exists ⟨rr,mv.length,H,R,ps,rfl,G1.same s2,by lia,by lia,⟨_,RR⟩,λfr H3 nf s3 g3=>?_⟩;have s13:=s12.trans s3;exists ⟨x,nn,H0,H1,mv,pt,lk,mh R ps mv.length,rfl,S.same s13,D,G2.same s3,by lia,λxs hx=>⟨KP xs hx,λys hy=>?_⟩,λtk H4 nt s4 G4=>?_⟩
  ·obtain ⟨b,h1,h2,rfl⟩:=xW hx;refine ⟨vn k0 (ag ka (p2 (by lia))) (W:=2^440) (p2 (by decide)) λy hy'=>Tp.of (Ej gm ys hy y hy') ?_,vn q0 (ag q1 (ag e17 (p2 (by decide)))) (W:=2^1740) (p2 (by decide)) λy hy'=>(Rm q0 q1 tR RR y hy').mono e17⟩;have vk:Vk<=2^40:=ag (ag (dN _ (by lia)) kc) (p2 c4);exact ag (ax vk (ag ka (p2 a4))) (by rw[<- aF];exact au _)
  have s14:=s13.trans s4;obtain ⟨ts,gt,qt,_⟩:=id G4;have lt:=qt.length;have lT:(nL (mh R ps mv.length) mv mv.length).length=(mh R ps mv.length).length:=aj ..
  have wT:∀xs∈nL (mh R ps mv.length) mv mv.length,xs.length=mv.length:=λxs hx=>by
   obtain ⟨z,_,rfl⟩:=az.mp hx;rw[aj,cL]
  have g4f:=s4 _ _ g3;exists ⟨⟨_,bF.of gt⟩,?_⟩;refine dm (K:=K) (as:=nL (mh R ps mv.length) mv mv.length) (F:=cY K H3) (cY K H) (λrow=>(IL ps mv.length).map λpl=>row.getD pl 0) gt qt (by lia) (λa b=>a.same b) (λa b=>a.same b) ?_ ?_
  ·rintro i row v H5 NY NN er s5 ⟨u,rfl,_,Ru⟩ k1;have lr:=wT row (ao er);have g5f:=s5 _ _ g4f;exists ⟨⟨_,bF.of g5f⟩,?_⟩;refine dm (K:=K) (as:=IL ps mv.length) (F:=λ_ j x=>x=V.int ((j:Nat):Int)) (b6 K) (λpl=>row.getD pl 0) g5f yC (by lia) (λh _=>h) (λh s=>h.same s) ?_ ?_
   ·rintro j pl w H6 NY6 NN6 ej s6 rfl k6;have hp:=(Fd.mp (ao ej)).1;obtain ⟨zs,gz,qz⟩:=Ru.same s6;obtain ⟨vx,ex,nx⟩:=ML qz (j:=pl) (by lia);exists cn (bF.of gz) ex ?_;exact k6 _ _ (aI.refl _) nx
   rintro ys6 H6 l6 hl6 s6 g6 pr6 _;exact k1 _ _ s6 ⟨l6,rfl,s14.none (s5.none hl6),⟨ys6,g6,pr6⟩⟩
  rintro ys5 H5 q5 n5 s5 g5 pr5 nx5;exists cu λt6 H6 s6 g6=>?_
  have s26:=((s3.trans s4).trans s5).trans s6;exact k t6 nn q5 _ H6 g6 ((s14.trans s5).trans s6) (s1.none nn0) ((G2.weak s1).same s26) lN KP ⟨Mq,q0,ag q1 e17,λxs hx x hx'=>by obtain ⟨b,_,_,rfl⟩:=xW hx;exact (Rm q0 q1 tR RR x hx').mono e17⟩
theorem dQ:aU ["_law_bag_here","_law_system_here","_law_puts_here","_law_price","_law_wide","_law_n","_law_papers_here","_law_rows","_law_spoilt","_law_at","_law_other","_law_t","_law_k"] ["_law_bag_here","_law_system_here","_law_puts_here","_law_price","_law_wide"] (aN nW):=by walk_at "d"
theorem A3 (T:Txt K mg Z) (ptree:P.given.tree=none):cK P w K mg base fK 10 Z.uN Z.uu ["_law_bag_here","_law_system_here","_law_puts_here","_law_price","_law_wide"] (F2 K Z.a_System):=by
 have fE:=kL (P:=P) (w:=w) (base:=base) T ptree;have IB:=EO (P:=P) (w:=w) (base:=base) T ptree;have kQ:=pM (P:=P) (w:=w) (base:=base) T ptree;have aP:=dS (P:=P) (w:=w) (base:=base) T ptree;have ij:=mS (P:=P) (w:=w) (base:=base) T ptree;refine T.mB.F.ok dQ (λvs H Q E h=>?_) (λcdv A outer s H vs Q E hr h=>?_)
 ·obtain ⟨b,x,p,y,tt,a,c,w,H0,H1,mv,pt,lk,pus,pr,rfl,_⟩:=h;rfl
 ·obtain ⟨b,x,p,y,tt,a,c,w,H0,H1,mv,pt,lk,pus,pr,rfl,B,nb0,nb1,S,D,KF,w1,w6,pb,yb,Gp,Ry,lp,t12,wp,gb,lr,pr0,k⟩:=h
  refine ⟨_,(ar (aS (i:=5) dQ.nd rfl (Or.inl rfl) (bL be (by rfl) T.len a7 (ae (pv 3) ai)))
   (ar (aS (i:=6) dQ.nd rfl (Or.inl rfl) (dc (ae (cW (ae (pv 2) (ae (pv 3) ai))) (ae (cW (ae (pv 2) (ae (cH fE hr T.fN (ae (pv 0) (ae (pv 5) (ae (pv 4) ai)))) ai))) ai))))
   (ar (aS (i:=7) dQ.nd rfl (Or.inl rfl) (aW bU (cH IB hr T.pO (ae (pv 1) ai)) ak))
   (gN (dh (bw (pK (CK hr)) (pv 7) (dc ai) (bM _)) (aA (ic (qH cx cD cC gQ (pv 6) (ae (cW (ae (pv 2) (ae (cH kQ hr T.jV (ae (pv 3) (ae (aW bA (pv 7) (cH aP hr T.aR (ae (pv 0) (ae (bL be (by rfl) T.len a7 (ae (pv 7) ai)) ai)))) ai))) ai))) ai)))) b8)
   (gN (dh (bw vW (pv 5) ak (bM _)) (ar (aS (i:=8) dQ.nd rfl (Or.inl rfl) (du fP (by rfl) T.list PyProof.Rows.boot_list (ae (pv 3) ai)))
   (ar (aS (i:=9) dQ.nd rfl (Or.inl rfl) (cH aP hr T.aR (ae (pv 0) (ae (pv 5) ai))))
   (ar (fB (cH ij hr T.gZ (ae (aW bA (pv 8) (pv 9)) (ae (cW (ae ak (ae (bI eQ ak (cH aP hr T.aR (ae (pv 0) (ae ak ai)))) ai))) ai))) (gP (pv 8) (pv 9) set_list))
   (aA (ic (qH cx cD cC gQ (pv 6) (ae (cW (ae (pv 2) (ae (pv 8) ai))) ai))))))) b8)
   (ar (dh (PW.pt (jN (bw (pK (CK hr)) (pv 2) (dc ai) (bM _)) (ky (bw (pK (CK hr)) (aW bA (pv 2) ak) (dc ai) (bM _))))) (ar (mQ 10 ["_law_row_here"] [] [] dQ.nd rfl rfl (cB (pv 2)) (λ_=>(aO (i:=0) (show ND9 ["_law_row_here"] by decide +kernel))) (λ_=>cw) (λ_=>(du (iF K (by rfl)) (by rfl) T.list PyProof.Rows.boot_list (ae (pv 0) ai))))
   (ar (aS (i:=11) dQ.nd rfl (Or.inl rfl) (cH aP hr T.aR (ae (pv 0) (ae (bL be (by rfl) T.len a7 (ae (pv 2) ai)) ai))))
   (ar (aS (i:=12) dQ.nd rfl (Or.inl rfl) (cH aP hr T.aR (ae (pv 0) (ae (bL be (by rfl) T.len a7 (ae (aW bA (pv 2) ak) ai)) ai))))
   (ar (fB (cH ij hr T.gZ (ae (aW bA (aW bA (pv 10) (pv 11)) (pv 12)) (ae (cW (ae ak (ae (bI eQ ak (cH aP hr T.aR (ae (pv 0) (ae ak ai)))) ai))) ai))) (gP (aW bA (pv 10) (pv 11)) (pv 12) set_list))
   (aA (ic (qH cx cD cC gQ (pv 6) (ae (cW (ae (pv 10) (ae (pv 3) ai))) ai)))))))) b8)
   (aA (aV (pv 6))))))))),?_⟩
  refine aQ (σ:=[some (.ref b),some (.ref x),some (.ref p),some (.ref y),some (.int w),none,none,none,none,none,none,none,none]) rfl ?_;have bH:=B.at;have d8:=D.n8;have i4:=D.i4;obtain ⟨vs,gp,qp,nin⟩:=id Gp;have lv:=qp.length;obtain ⟨vy,gy,qy⟩:=id Ry;have lvy:=qy.length;obtain ⟨qi,Ii,xi,gi⟩:=B.inner;have zPr:=OY.szn pr0;have zPu:=gb.szn (by decide);exists ⟨_,_,rfl,.inl (bF.of gy),?_⟩;rw[show vy.length=mv.length by lia];exists cu λt1 H2 s2 g2=>?_
  exists ⟨b,mv.length,w,rfl,B.same s2,by lia,w1,w6,λy2 pr2 H3 ny2 R2 l2 dr2 B3 u3=>?_⟩;have U3:cI b H H3:=s2.upto.trans u3;have y2b:y2≠b:=λz=>bH (s2.none (by rw[<- z];exact ny2))
  exists cu λt2 H4 s4 g4=>?_
  exists cS λl H5 s5 nl g5=>?_
  have U5:cI b H H5:=(U3.same s4).same s5;have B5:=(B3.same s4).same s5;have nlH:H l=none:=U3.none B3 (s4.none nl);have lb:l≠b:=λz=>bH (by rw[<- z];exact nlH)
  have ne:∀{q o},H q=some o->q≠l:=λh z=>by rw[z,nlH] at h;cases h
  have Al:¬(l≠b/\l≠l):=λz=>z.2 rfl
  have Ab:¬(b≠b/\b≠l):=λz=>z.1 rfl
  have ap:p≠b/\p≠l:=⟨pb,ne gp⟩;have ay:y≠b/\y≠l:=⟨yb,ne gy⟩;have PP:Paired (Fo K (λq=>q≠b/\q≠l) H) pus vs:=Paired.imp' (λ_ _ ⟨q,e,nq,R⟩=>⟨q,e,⟨λz=>nb1 (by rw[<- z];exact nq),by obtain ⟨zs,gz,_⟩:=id R;exact ne gz⟩,R⟩) qp;have mkP:∀(t y':Addr) (pr':List Rat) (H':Hp),cI b H H'->H' t=some (.tup [.ref p,.ref y'])->(y'≠b/\y'≠l)->cz K H' y' pr'->pr'.length=mv.length->QV pr'->kO K (λq=>q≠b/\q≠l) mv pt tt H' (.ref t):=λt y' pr' H' U gt a' R' l' h'=>⟨t,p,y',pus,pr',vs,rfl,gt,ap,a',U.other pb gp,Paired.imp' (λ_ _ ⟨q,e,c,d⟩=>⟨q,e,c,d.upto U B c.1⟩) PP,nin,R',lp,wp,gb.up (by decide) (by decide),l',h'⟩
  have y2l:y2≠l:=λz=>by obtain ⟨zs,gz,_⟩:=id R2;rw[z,s4.none nl] at gz;cases gz
  have K1:kO K (λq=>q≠b/\q≠l) mv pt tt H5 (.ref t1):=mkP t1 y pr H5 U5 ((s4.trans s5) _ _ (u3.tup (B.same s2) g2)) ay (Ry.upto U5 B yb) lr (OY.up pr0);have K2:kO K (λq=>q≠b/\q≠l) mv pt tt H5 (.ref t2):=mkP t2 y2 pr2 H5 U5 (s5 _ _ g4) ⟨y2b,y2l⟩ (R2.same (s4.trans s5)) l2 (NM dr2 w6 (by lia))
  have PA5:∀u∈[V.ref t1,V.ref t2],kO K (λq=>q≠b/\q≠l) mv pt tt H5 u:=λu hu=>by
   rcases aL.mp hu with rfl | hu
   ·exact K1
   ·rw[bW.mp hu];exact K2
  clear K1 K2
  have app:∀(H':Hp) (us:List V) (t:Addr) (m:Nat),cI b H H'->gh H' b->H' l=some (.lst us)->us.length<=m->(∀u∈us,kO K (λq=>q≠b/\q≠l) mv pt tt H' u)->kO K (λq=>q≠b/\q≠l) mv pt tt H' (.ref t)->cI b H (upd H' l (.lst (us++[.ref t])))/\gh (upd H' l (.lst (us++[.ref t]))) b/\∃us',(upd H' l (.lst (us++[.ref t]))) l=some (.lst us')/\us'.length<=m+1/\∀u∈us',kO K (λq=>q≠b/\q≠l) mv pt tt (upd H' l (.lst (us++[.ref t]))) u:=λH' us t m U B' g lm h ht=>by
   refine ⟨U.after nlH,B'.upd (U.2 _ Ii) lb (λe=>by rw[e,gi] at nlH;cases nlH),us++[.ref t],aJ,by rw[aw];exact Nat.add_le_add_right lm 1,λu hu=>?_⟩;rcases aH.mp hu with hu | hu
   ·exact (h u hu).updL g Al
   ·rw[bW.mp hu];exact ht.updL g Al
  exists ⟨x,a,c,H0,mv,pt,lk,rfl,S.upto U5 B nb0,D,KF,λt6 r6 q6 N6 H6 g6 s6 nr6 G6 l6 w6' z6=>?_⟩;have U6:=U5.same s6;have B6:=B5.same s6;obtain ⟨us6,gr6,qr6,_⟩:=id G6;have lr6:=qr6.length;have r6b:r6≠b:=λz=>B5.at (by rw[<- z];exact nr6)
  exists ⟨λσ' H'=>cI b H H'/\gh H' b/\(∃us,H' l=some (.lst us)/\us.length<=3/\∀u∈us,kO K (λq=>q≠b/\q≠l) mv pt tt H' u)/\∃y1 y2 y3 y4 y5 y6,σ'=[some (.ref b),some (.ref x),some (.ref p),some (.ref y),some (.int w),some (.int mv.length),some (.ref l),y1,y2,y3,y4,y5,y6],?_,?_⟩
  ·exists cS λe7 H7 s7 n7 g7=>?_
   exists ⟨_,_,Bp,N6,[],by decide,(G6.same s7).kind,⟨e7,_,rfl,bF.of g7,.nil⟩,?_⟩;have s57:=s6.trans s7;have U7:=U5.same s57;have B7:=B5.same s57;by_cases e0:N6=[]
   ·rw[decide_eq_true e0];exists ⟨U7,B7,⟨_,s57 _ _ g5,(by show 2<=3;decide),λu hu=>(PA5 u hu).same s57⟩,_,_,_,_,_,_,rfl⟩
   rw[decide_eq_false e0];have np:0 < N6.length:=FJ.mpr e0;exists ⟨.inl ⟨rfl,_,bF.of (s57 _ _ g5)⟩,?_⟩;exists ⟨_,_,rfl,.inl (bF.of (s7 _ _ gr6)),?_⟩;rw[<- lr6];exists ⟨b,N6.length,rfl,B7,by lia,by lia,λkk H8 k0 k1 B8 u8=>?_⟩;obtain ⟨kk,rfl⟩:=bS k0;have U8:=U7.trans u8;obtain ⟨us8,gr8,qr8,_⟩:=(G6.same s7).upto u8 B7 r6b B5.at;have lr8:=qr8.length;obtain ⟨row,v8,er,ev,mr,u9,rfl,nq9,R9⟩:=dF qr8 (i:=kk) (by lia);exists cn (bF.of gr8) (dA ev) ?_;obtain ⟨M6,m0,mb,tp6⟩:=z6;exists ⟨y,u9,pr,row,rfl,Ry.upto U8 B yb,R9,by rw[w6' row mr,lr],by lia,zPr,λz hz=>oY (tp6 row mr z hz) m0 (ag mb (p2 (by decide))) (p2 (by decide)),λrA HA nA sA RA=>?_⟩;have UA:=U8.same sA;have BA:=B8.same sA;exists cu λtB HB sB gB=>?_
   have UB:=UA.same sB;have sAB:=sA.trans sB;have uB:cI b H5 HB:=(s57.upto.trans u8).same sAB;have gl:=uB.other lb g5;have rAH:rA≠b:=λz=>B8.at (by rw[<- z];exact nA)
   have rAl:rA≠l:=λz=>by rw[z,u8.other lb (s57 _ _ g5)] at nA;cases nA
   exists gL gl (br (show 2<=1000 by decide)) ?_;have pB:=mkP tB rA _ HB UB gB ⟨rAH,rAl⟩ (RA.same sB) (by rw[bo,w6' row mr,lr,kG]) (Ql pr0 m0 mb (tp6 row mr));obtain ⟨z1,z2,z3⟩:=app HB _ tB 2 UB (BA.same sB) gl (by show 2<=2;decide) (λu hu=>(PA5 u hu).upto uB B5 Ab) pB;exact ⟨z1,z2,z3,_,_,_,_,_,_,rfl⟩
  clear PA5 s2 u3 s4 s5 s6;rintro σ' H7 ⟨U7,B7,⟨us7,gl7,ll7,PA7⟩,y1,y2,y3,y4,y5,y6,rfl⟩;exists ⟨λσ' H'=>cI b H H'/\gh H' b/\(∃us,H' l=some (.lst us)/\us.length<=4/\∀u∈us,kO K (λq=>q≠b/\q≠l) mv pt tt H' u)/\∃y1 y2 y3 y4 y5 y6,σ'=[some (.ref b),some (.ref x),some (.ref p),some (.ref y),some (.int w),some (.int mv.length),some (.ref l),y1,y2,y3,y4,y5,y6],?_,?_⟩
  ·exists iK (λhn=>?_) (λ_=>?_)
   rotate_left
   ·exists ⟨U7,B7,⟨us7,gl7,by lia,PA7⟩,_,_,_,_,_,_,rfl⟩
   have hn:=of_decide_eq_true hn;obtain ⟨q7,I7,x7,g7'⟩:=B7.inner;obtain ⟨vy7,gy7,qy7⟩:=Ry.upto U7 B yb;have lvy7:=qy7.length;exists ⟨y,vy7,rfl,.inl (bF.of gy7),λc8 nc8=>?_⟩;have s8:aI H7 (upd H7 c8 (.lst vy7)):=aI.new nc8;have g8:(upd H7 c8 (.lst vy7)) c8=some (.lst vy7):=aJ;generalize upd H7 c8 (.lst vy7)=H8 at s8 g8 ⊢;have c8b:c8≠b:=λz=>B7.at (by rw[<- z];exact nc8)
   have c8l:c8≠l:=λz=>by rw[z,gl7] at nc8;cases nc8
   have B8:=B7.same s8;exists ⟨b,mv.length,rfl,B8,by lia,by lia,λkk H9 k0 k1 B9 u9=>?_⟩;obtain ⟨kk,rfl⟩:=bS k0;have g9:=u9.other c8b g8;have qy9:Paired (b6 K H9) pr vy7:=Paired.imp' (λ_ _ z=>(z.same s8).upto u9 B8) qy7;obtain ⟨xk,vk,ek,evk,mk,nk⟩:=dF qy9 (i:=kk) (by lia);exists cn (bF.of g9) (dA evk) ?_;exists ⟨b,3,rfl,B9,by decide,by decide,λdd HA d0 d1 BA uA=>?_⟩;exists cu λtB HB sB gB=>?_
   obtain ⟨q3,e3,f3⟩:=U2 d0 d1;exists ⟨vk,.ref tB,xk,q3,rfl,(nk.upto uA B9).same sB,b6.mk gB e3,zPr xk mk,sV (a:=3) (b:=0) (by decide) (by decide) (by decide) (by decide) f3,λrC HC sC NC=>?_⟩;have u9C:cI b H9 HC:=(uA.same sB).same sC;have gC:=u9C.other c8b g9;have u7C:cI b H7 HC:=(s8.upto.trans u9).trans u9C;exists eN gC (fh (by lia)) rfl ?_;have qC:Paired (b6 K HC) pr vy7:=Paired.imp' (λ_ _ z=>z.upto u9C B9) qy9;have qD:=vv NC kk qC;have UD:cI b H7 (upd HC c8 (.lst (vy7.set kk (.ref rC)))):=u7C.after nc8;have gD:(upd HC c8 (.lst (vy7.set kk (.ref rC)))) c8=some (.lst (vy7.set kk (.ref rC))):=aJ;have qD:Paired (b6 K (upd HC c8 (.lst (vy7.set kk (.ref rC))))) (pr.set kk (xk+q3)) (vy7.set kk (.ref rC)):=Paired.imp' (λ_ _ z=>z.updL gC) qD;have BD:gh (upd HC c8 (.lst (vy7.set kk (.ref rC)))) b:=((BA.same sB).same sC).upd (u7C.2 _ I7) c8b (λe=>by rw[e,g7'] at nc8;cases nc8);generalize upd HC c8 (.lst (vy7.set kk (.ref rC)))=HD at UD gD qD BD ⊢;have glD:=UD.other lb gl7;exists ⟨.inl ⟨rfl,_,bF.of glD⟩,?_⟩;exists cu λtE HE sE gE=>?_
   exists gL (sE _ _ glD) (br (by lia)) ?_;have pE:=mkP tE c8 _ HE ((U7.trans UD).same sE) gE ⟨c8b,c8l⟩ ⟨_,sE _ _ gD,Paired.imp' (λ_ _ z=>z.same sE) qD⟩ (by rw[dM,lr]) (Qk pr0 mk f3);obtain ⟨z1,z2,z3⟩:=app HE _ tE 3 ((U7.trans UD).same sE) (BD.same sE) (sE _ _ glD) ll7 (λu hu=>((PA7 u hu).upto UD B7 Ab).same sE) pE;exact ⟨z1,z2,z3,_,_,_,_,_,_,rfl⟩
  clear PA7;rintro σ' H8 ⟨U8,B8,⟨us8,gl8,ll8,PA8⟩,z1,z2,z3,z4,z5,z6',rfl⟩;exists cS λe9 H9 s9 n9 g9=>?_
  walk_at "w";have U9:=U8.same s9;have B9:=B8.same s9;have gl9:=s9 _ _ gl8;have PA9:=λu hu=>(PA8 u hu).same s9
  have Gp9:=Gp.upto U9 B pb nb1;refine ⟨_,_,Bp,pus,[],by decide,Gp9.kind,⟨e9,_,rfl,bF.of g9,.nil⟩,?_⟩;have fin:∀(H':Hp) (us:List V),cI b H H'->gh H' b->H' l=some (.lst us)->us.length<=5->(∀u∈us,kO K (λq=>q≠b/\q≠l) mv pt tt H' u)->Q (.ref l) H':=λH' us U B' g h1 h2=>k l us H' nlH U B' g (by lia) λu hu=>(h2 u hu).weak λq h=>h.1
  by_cases e0:pus=[]
  ·rw[decide_eq_true e0];exists fin _ _ U9 B9 gl9 (by lia) PA9
  rw[decide_eq_false e0];have tp:0 < tt:=by rw[<- lp];exact FJ.mpr e0
  obtain ⟨vs9,gp9,qp9,_⟩:=id Gp9;have lv9:=qp9.length;obtain ⟨row0,v0,er0,ev0,mr0,u0,rfl,nq0,R0⟩:=dF qp9 (i:=0) (by lia);have u0b:u0≠b:=λz=>nb1 (by rw[<- z];exact nq0)
  exists cn (bF.of gp9) (dA (j:=0) ev0) ?_;exists cS λeA HA sA nA gA=>?_
  exists ⟨_,_,yH,row0,[],by decide,(R0.same sA).kind,⟨eA,_,rfl,bF.of gA,.nil⟩,?_⟩;have UA:=U9.same sA;have BA:=B9.same sA;have glA:=sA _ _ gl9;have PAA:=λu hu=>(PA9 u hu).same sA
  by_cases e1:row0=[]
  ·rw[decide_eq_true e1];exists fin _ _ UA BA glA (by lia) PAA
  rw[decide_eq_false e1];have ip:0 < pt.length:=by rw[<- wp row0 mr0];exact FJ.mpr e1
  have gpA:=sA _ _ gp9;have qpA:Paired (cY K H1 HA) pus vs9:=Paired.imp' (λ_ _ z=>cY.same z sA) qp9;exists ⟨⟨_,bF.of gpA⟩,?_⟩;refine dm (K:=K) (as:=pus) (F:=cY K H1) (cY K HA) (λxs=>xs) gpA qpA (by lia) (λh s=>h.same s) (λh s=>h.same s) ?_ ?_
  ·rintro i xs x9 Hi NY NN ex si ⟨u,rfl,_,zs,gz,qz⟩ k1;exists ⟨u,zs,rfl,.inl (bF.of gz),λlq hlq=>?_⟩;exact k1 _ _ (aI.new hlq) ⟨lq,rfl,si.none hlq,zs,aJ,Paired.imp' (λ_ _ y=>b6.same y (aI.new hlq)) qz⟩
  rintro usB HB oB nB sB gB prB nxB;rw[List.map_id'] at prB nxB;have ninB:=jD nxB;have lusB:=prB.length;have BB:=BA.same sB;have oBb:oB≠b:=λz=>BA.at (by rw[<- z];exact nB)
  have oBl:oB≠l:=λz=>by rw[z,glA] at nB;cases nB
  exists ⟨_,_,rfl,.inl (bF.of (sB _ _ gpA)),?_⟩;rw[show vs9.length=tt by lia];exists ⟨b,tt,rfl,BB,by lia,by lia,λti HC t0 t1 BC uC=>?_⟩;obtain ⟨ti,rfl⟩:=bS t0;have gpC:=uC.other pb (sB _ _ gpA);have R0C:=((R0.same sA).same sB).upto uC BB u0b;obtain ⟨z0,g0C,q0C⟩:=id R0C;have l0C:=q0C.length;have w0:=wp row0 mr0;exists cn (bF.of gpC) (dA (j:=0) ev0) ?_;exists ⟨_,_,rfl,.inl (bF.of g0C),?_⟩;rw[show z0.length=pt.length by lia];exists ⟨b,pt.length,rfl,BC,by lia,by lia,λki HD k0 k1 BD uD=>?_⟩;obtain ⟨ki,rfl⟩:=bS k0;have uBD:=uC.trans uD;have gD:=uBD.other oBb gB;have prD:Paired (cY K HA HD) pus usB:=Paired.imp' (λ_ _ z=>cY.upto z uBD BB BA.at) prB;obtain ⟨row,vr,er,ev,mr,q,rfl,nq,zs,gz,qz⟩:=dF prD (i:=ti) (by lia);have lz:=qz.length;have wr:=wp row mr;have qb:q≠b:=λz=>BA.at (by rw[<- z];exact nq)
  obtain ⟨xk,vx,ex,evx,mx,nx⟩:=dF qz (i:=ki) (by lia);exists cn (bF.of gD) (dA ev) ?_;exists cn (bF.of gz) (dA evx) ?_;exists ⟨b,3,rfl,BD,by decide,by decide,λdd HE d0 d1 BE uE=>?_⟩;exists cu λtF HF sF gF=>?_
  obtain ⟨q3,e3,f3⟩:=U2 d0 d1;exists ⟨vx,.ref tF,xk,q3,rfl,(nx.upto uE BD).same sF,b6.mk gF e3,zPu row mr xk mx,sV (a:=3) (b:=0) (by decide) (by decide) (by decide) (by decide) f3,λrG HG sG NG=>?_⟩;have uDG:cI b HD HG:=(uE.same sF).same sG;have gG:=uDG.other oBb gD;have gzG:=uDG.other qb gz;exists cn (bF.of gG) (dA ev) ?_;exists eN gzG (fh (by lia)) rfl ?_;have uAG:cI b HA HG:=sB.upto.trans (uBD.trans uDG);have prG:Paired (cY K HA HG) pus usB:=Paired.imp' (λ_ _ z=>cY.upto z uDG BD BA.at) prD;have oq:oB≠q:=λz=>ninB (by rw[z];exact ao ev)
  have RP:=Jn (A:=λa=>HA a=none/\a≠oB) (n:=pt.length) (C:=λz=>∃ys∈pus,∃x∈ys,z=x\/z=x+q3) prG (λxs hx=>⟨wp xs hx,λz hz=>⟨xs,hx,z,hz,.inl rfl⟩⟩) (λa ha h1 _=>⟨h1,λz=>ninB (by rw[<- z];exact ha)⟩);obtain ⟨pus',pr',ll',hh'⟩:=vo (A:=λq=>q≠b/\q≠l) λu hu=>((RP u hu).put gzG NG ⟨row,mr,xk,mx,.inr rfl⟩ ki).weak (λa h=>⟨λz=>BA.at (by rw[<- z];exact h.1),λz=>(by rw[z,glA] at h;exact nomatch h.1)⟩) (λ_ z=>z)
  obtain ⟨qA,IA,xA,gA'⟩:=BA.inner;have UH:cI b HA (upd HG q (.lst (zs.set ki (.ref rG)))):=uAG.after nq;have BH:gh (upd HG q (.lst (zs.set ki (.ref rG)))) b:=((BE.same sF).same sG).upd (uAG.2 _ IA) qb (λe=>by rw[e,gA'] at nq;cases nq);have gH:(upd HG q (.lst (zs.set ki (.ref rG)))) oB=some (.lst usB):=by rw[bD oq];exact gG
  generalize upd HG q (.lst (zs.set ki (.ref rG)))=HH at UH BH gH pr' ⊢;have glH:=UH.other lb glA;have RyH:=(Ry.upto UA B yb).upto UH BA yb;exists ⟨.inl ⟨rfl,_,bF.of glH⟩,?_⟩;exists cu λtI HI sI gI=>?_
  exists gL (sI _ _ glH) (br (by lia)) ?_;have UI:=(UA.trans UH).same sI;have pI:kO K (λq=>q≠b/\q≠l) mv pt tt HI (.ref tI):=⟨tI,oB,y,pus',pr,usB,rfl,gI,⟨oBb,oBl⟩,ay,sI _ _ gH,Paired.imp' (λ_ _ ⟨a,b,c,d⟩=>⟨a,b,c,d.same sI⟩) pr',ninB,RyH.same sI,by lia,λxs hx=>(hh' xs hx).1,QD gb f3 λxs hx=>(hh' xs hx).2,lr,OY.up pr0⟩;obtain ⟨x1,x2,us',x3,x4,x5⟩:=app HI _ tI 4 UI (BH.same sI) (sI _ _ glH) ll8 (λu hu=>((PAA u hu).upto UH BA Ab).same sI) pI;exists fin _ us' x1 x2 x3 (by lia) x5
theorem iD:aU ["_law_parts_here","_law_steps_here","_law_rows","_law_some","_law_turn"] ["_law_parts_here","_law_steps_here"] (aN pG):=by walk_at "d"
theorem CJ (T:Txt K mg Z) (ptree:P.given.tree=none):cK P w K mg base fK 5 Z.xp Z.wV ["_law_parts_here","_law_steps_here"] (Dt K):=by
 have yx:=A4 (P:=P) (w:=w) (base:=base) T ptree;refine T.oy.F.ok iD (λvs H Q E h=>?_) (λcdv A outer s H vs Q E hr h=>?_)
 ·obtain ⟨r,tt,H0,mv,pt,lk,rfl,_⟩:=h;rfl
 ·obtain ⟨r,tt,H0,mv,pt,lk,rfl,hT,PQ,D,AF,k⟩:=h
  refine ⟨_,(ar (mQ 2 ["_law_row_here"] [] [] iD.nd rfl rfl (cB (aW bU (pv 0) ak)) (λ_=>(aO (i:=0) (show ND9 ["_law_row_here"] by decide +kernel))) (λ_=>cw) (λ_=>(du (iF K (by rfl)) (by rfl) T.list PyProof.Rows.boot_list (ae (pv 0) ai))))
   (ar (aS (i:=3) iD.nd rfl (Or.inl rfl) (dc ai))
   (ar (dR PassesOwn.never rfl (cE rfl T.range (ae (pv 1) ai)) (aO (i:=4) iD.nd)
    (ar (aS (i:=3) iD.nd rfl (Or.inl rfl) (bI jP (pv 3) (pv 2)))
   (aA (mQ 2 ["_law_row_here"] ["_law_parts_here"] [0] iD.nd rfl rfl (cB (pv 2)) (λ_=>(aO (i:=0) (show ND9 ["_law_row_here","_law_parts_here"] by decide +kernel))) (λ_=>cw) (λ_=>(cH yx hr T.pW (ae (aW (p9 K (by rfl)) (pv 1) ak) (ae (pv 0) ai))))))))
   (aA (aV (pv 3)))))),?_⟩
  refine aQ (σ:=[some (.ref r),some (.int tt),none,none,none]) rfl ?_;have d1:=D.n8;have i4:=D.i4;obtain ⟨m,p,l,g,n1,n2,n3,Gm,Gp,Gl⟩:=id PQ;obtain ⟨up,gp,qp,_⟩:=id Gp;have lup:=qp.length;exists ⟨⟨_,bF.of gp⟩,?_⟩;refine dm (K:=K) (F:=cY K H0) (cY K H) id gp qp (by lia) (λa b=>a.same b) (λa b=>a.same b) ?_ ?_
  ·rintro i ns x H' NY NN en s ⟨u,rfl,_,zs,gz,qz⟩ k1;exists ⟨u,zs,rfl,.inl (bF.of gz),λl1 hl1=>?_⟩;exact k1 _ _ (aI.new hl1) ⟨l1,rfl,s.none hl1,zs,aJ,Paired.imp' (λ_ _ z=>z.same (aI.new hl1)) qz⟩
  rintro ys1 H1 rq1 hr1 s1 g1 pr1 nx1;rw[mG] at pr1 nx1;have G1:bB K H H1 rq1 pt:=⟨ys1,g1,pr1,jD nx1⟩;exists cS λsm0 H2 s2 nf gf=>?_
  have s02:=s1.trans s2;exists ⟨by lia,by lia,?_⟩;refine d9 (n:=tt) (λt σ' H'=>aI H H'/\∃rq sm y,σ'=[some (.ref r),some (.int tt),some (.ref rq),some (.ref sm),y]/\H sm=none/\bB K H H' sm (kry mv pt t)/\bB K H H' rq (pt.map (d6 mv t))) ⟨s02,rq1,sm0,_,rfl,s1.none nf,⟨[],gf,.nil,λz=>nomatch z⟩,by rw[show pt.map (d6 mv 0)=pt from mG pt];exact G1.same s2⟩ ?_ ?_
  ·rintro t σ' H' ht ⟨s',rq,sm,y,rfl,nsm,Gs,Gq⟩;obtain ⟨us,gu,pu,_⟩:=id Gs;obtain ⟨zs,gz,qz,_⟩:=id Gq;have lz:=qz.length;rw[aj] at lz;have lu:=pu.length;rw[jX] at lu;have lb:t*pt.length<=20*4:=ax (by lia) i4;exists kW gu gz (aT (br (by lia))) λcc H3 s3 nc gc=>?_
   have ek:kry mv pt (t+1)=kry mv pt t++pt.map (d6 mv t):=by
    rw[<- jr,zZ,eT,jr];simp
   have Gc:bB K H H3 cc (kry mv pt (t+1)):=by
    rw[ek];exact ⟨_,gc,Paired.imp' (λ_ _ z=>cY.same z s3) (bV pu qz),jD ⟨H',nc,bV pu qz⟩⟩
   have s03:=s'.trans s3;have g3:=s03 _ _ g;exists ⟨⟨_,bF.of (s3 _ _ gz)⟩,?_⟩;refine dm (K:=K) (F:=cY K H) (cY K H) (mJ mv) (s3 _ _ gz) (Paired.imp' (λ_ _ z=>cY.same z s3) qz) (by rw[aj];lia) (λa b=>a.same b) (λa b=>a.same b) ?_ ?_
   ·rintro i ns v Ha NY NN en sa ⟨u,rfl,_,Ru⟩ k1;have mn:=ao en;obtain ⟨y0,hy0,rfl⟩:=az.mp mn;have wy:=D.pw y0 hy0;have ga:=sa _ _ g3;exists ⟨m,u,H0,mv,_,rfl,(Gm.same s03).same sa,Ru,by lia,by rw[jO wy];lia,λxs hx=>⟨by rw[D.mw xs hx,jO wy],((AF.row D.mw D.pw y0 hy0).fit D.mw wy (show t<=tt by lia)).1 xs hx⟩,λz Hj nz sj Rz=>k1 _ _ sj ⟨z,rfl,s03.none (sa.none nz),Rz⟩⟩
   ·rintro ys Hb rr hrr sb gb prb nxb;have e:(pt.map (d6 mv t)).map (mJ mv)=pt.map (d6 mv (t+1)):=by rw[nH];rfl
    rw[e] at prb nxb;exact ⟨s03.trans sb,rr,cc,_,rfl,s'.none nc,Gc.same sb,ys,gb,prb,jD nxb⟩
  ·rintro σ' H' ⟨s',rq,sm,y,rfl,nsm,Gs,Gq⟩;exists k sm H' nsm s' Gs
theorem i5:aU ["_law_parts_here","_law_weights_here","_law_puts_here","_law_price","_law_rows","_law_ins","_law_t","_law_k","_law_row_here"] ["_law_parts_here","_law_weights_here","_law_puts_here","_law_price"] (aN rJ):=by walk_at "d"
theorem EU (T:Txt K mg Z) (ptree:P.given.tree=none):cK P w K mg base fK 6 Z.zh Z.yP ["_law_parts_here","_law_weights_here","_law_puts_here","_law_price"] (Kl K):=by
 have FA:=CJ (P:=P) (w:=w) (base:=base) T ptree;have hX:=lO (P:=P) (w:=w) (base:=base) T ptree;have vK:=yF (P:=P) (w:=w) (base:=base) T ptree;refine T.pU.F.ok i5 (λvs H Q E h=>?_) (λcdv A outer s H vs Q E hr h=>?_)
 ·obtain ⟨r,q,p,y,tt,H0,H1,mv,pt,lk,pus,ws,st,pr,rfl,_⟩:=h;rfl
 ·obtain ⟨r,q,p,y,tt,H0,H1,mv,pt,lk,pus,ws,st,pr,rfl,PQ,D,AF,Rq,lw,Gp,t12,Ry,F,k⟩:=h
  refine ⟨_,(ar (aS (i:=4) i5.nd rfl (Or.inl rfl) (cH FA hr T.oy (ae (pv 0) (ae (bL be (by rfl) T.len a7 (ae (pv 2) ai)) ai))))
   (ar (aS (i:=5) i5.nd rfl (Or.inl rfl) (bL be (by rfl) T.len a7 (ae (aW bU (pv 0) ak) ai)))
   (ar (dR PassesOwn.never rfl (cE rfl T.range (ae (bL be (by rfl) T.len a7 (ae (pv 2) ai)) ai)) (aO (i:=6) i5.nd)
    (aA (dR PassesOwn.never rfl (cE rfl T.range (ae (pv 5) ai)) (aO (i:=7) i5.nd)
    (ar (aS (i:=8) i5.nd rfl (Or.inl rfl) (aW bA (pv 4) (bI eQ (bI dg (bI kX (bI kX (bL be (by rfl) T.len a7 (ae (pv 2) ai)) (pv 6)) ak) (pv 5)) (pv 7))))
   (aA (dh (bw (pK (CK hr)) (cH hX hr T.ig (ae (aW bA (pv 1) (pv 7)) (ae (aW bA (aW bA (pv 2) (pv 6)) (pv 7)) ai))) (cH vK hr T.mW (ae (pv 3) (ae (pv 8) ai))) (bM _)) (aA (aV rY)) b8))))))
   (aA (aV rY))))),?_⟩
  refine aQ (σ:=[some (.ref r),some (.ref q),some (.ref p),some (.ref y),none,none,none,none,none]) rfl ?_;have d8:=D.n8;have i4:=D.i4;have lp:=F.lp;have wp:=F.wp;have lr:=F.lr;have TF:=Sd (mv:=mv) (pt:=pt) (ws:=ws) (pr:=pr) lp;have kl:=jX (mv:=mv) (pt:=pt) tt;have wk:=gR (mv:=mv) (pt:=pt) rfl D.pw tt;obtain ⟨vs,gp,qp,_⟩:=id Gp;have lv:=qp.length;obtain ⟨m,p',l',gr,n1,n2,n3,Gm,Gp',Gl'⟩:=id PQ;obtain ⟨up,gpt,qpt,_⟩:=id Gp';have lup:=qpt.length;exists ⟨_,_,rfl,.inl (bF.of gp),?_⟩;rw[show vs.length=tt by lia];exists ⟨r,tt,H0,mv,pt,lk,rfl,by lia,PQ,D,AF,λrq H2 n2 s2 G2=>?_⟩;have gr2:=s2 _ _ gr;exists ⟨_,_,rfl,.inl (bF.of (s2 _ _ gpt)),?_⟩;rw[<- lup];exists ⟨_,_,rfl,.inl (bF.of (s2 _ _ gp)),?_⟩;rw[show vs.length=tt by lia];exists ⟨by lia,by lia,?_⟩;refine d9 (n:=tt) (λi σ' H'=>aI H2 H'/\(∃y1 y2 y3,σ'=[some (.ref r),some (.ref q),some (.ref p),some (.ref y),some (.ref rq),some (.int pt.length),y1,y2,y3])/\∀t k,t < i->k < pt.length->ws.getD k 0*(pus.getD t []).getD k 0=cG (d6 mv (tt - t - 1) (pt.getD k [])) pr) ⟨aI.refl _,⟨_,_,_,rfl⟩,λ_ _ h=>absurd h (di _)⟩ ?_ ?_
  ·rintro i σ' H' hi ⟨s',⟨y1,y2,y3,rfl⟩,hT⟩;exists ⟨by lia,by lia,?_⟩;refine d9 (n:=pt.length) (λj σ' H''=>aI H2 H''/\(∃y2 y3,σ'=[some (.ref r),some (.ref q),some (.ref p),some (.ref y),some (.ref rq),some (.int pt.length),some (.int i),y2,y3])/\∀k,k < j->ws.getD k 0*(pus.getD i []).getD k 0=cG (d6 mv (tt - i - 1) (pt.getD k [])) pr) ⟨s',⟨_,_,rfl⟩,λ_ h=>absurd h (di _)⟩ ?_ ?_
   ·rintro j σ' H3 hj ⟨s3,⟨y2,y3,rfl⟩,hJ⟩;have s03:=s2.trans s3;obtain ⟨vs',gp3,qp3,_⟩:=Gp.same s03;have lv3:=qp3.length;obtain ⟨vr,gr3,qr3,_⟩:=G2.same s3;have lr3:=qr3.length;obtain ⟨wv,gw,qw⟩:=Rq.same s03;have lwv:=qw.length
    have km:(tt - i - 1)*pt.length+pt.length<=tt*pt.length:=by
     rw[<- cZ];exact aG _ (by lia)
    exists ⟨_,_,rfl,.inl (bF.of gp3),?_⟩;rw[show vs'.length=tt by lia];exists fY (Fj (by lia) (by lia)) ?_;walk_at "w";rw[show (((tt:Int) - (i:Int) - 1)*(pt.length:Int)+(j:Int))=(((tt - i - 1)*pt.length+j:Nat):Int) by rw[Int.natCast_add,Int.natCast_mul,Int.natCast_sub (by lia),Int.natCast_sub (by lia)];rfl];have er:=Oj (mv:=mv) (pt:=pt) (s:=tt - i - 1) (k:=j) (T:=tt) (by lia) hj
    obtain ⟨v4,e4,u4,rfl,_,R4⟩:∃v,vr[(tt - i - 1)*pt.length+j]?=some v/\cY K H H3 (d6 mv (tt - i - 1) (pt.getD j [])) v:=by
     obtain ⟨row,v,a,b,_,f⟩:=dF qr3 (i:=(tt - i - 1)*pt.length+j) (by lia);rw[er] at a;cases a;exact ⟨v,b,f⟩
    refine cn (bF.of gr3) (v:=.ref u4) (dA e4) ?_;obtain ⟨w5,v5,ew5,ev5,mw5,nw5⟩:=dF qw (i:=j) (by lia);obtain ⟨row6,v6,er6,ev6,mr6,u6,rfl,_,R6⟩:=dF qp3 (i:=i) (by lia);obtain ⟨zv,gz,qz⟩:=id R6;have lz:=qz.length;have lo:=wp row6 mr6;obtain ⟨x7,v7,ex7,ev7,mx7,nx7⟩:=dF qz (i:=j) (by lia);exists cn (bF.of gw) (dA ev5) ?_;exists cn (bF.of gp3) (dA ev6) ?_;exists cn (bF.of gz) (dA ev7) ?_;exists ⟨_,_,w5,x7,rfl,nw5,nx7,F.sw w5 mw5,F.su row6 mr6 x7 mx7,λr8 H8 s8 N8=>?_⟩;have mk:d6 mv (tt - i - 1) (pt.getD j [])∈kry mv pt tt:=ao er;exists ⟨y,u4,pr,_,rfl,Ry.same (s03.trans s8),R4.same s8,by rw[wk _ mk,lr],by lia,F.dk _ mk,λr9 H9 s9 N9=>?_⟩;exists ⟨_,_,Om,_,_,by decide,N8.same s9,N9,?_⟩;have e5:ws.getD j 0=w5:=by rw[aa,ew5];rfl
    have e6:(pus.getD i []).getD j 0=x7:=by rw[aa (l:=pus),er6,zE,aa,ex7];rfl
    have s39:=s8.trans s9;by_cases hc:w5*x7=cG pr (d6 mv (tt - i - 1) (pt.getD j []))
    rotate_left
    ·rw[decide_eq_false hc];exists k false H9 (s03.trans s39) ⟨λz=>(by cases z),λz=>absurd (by rw[<- e5,<- e6,TF.mp z i j hi hj,tQ]) hc⟩
    rw[decide_eq_true hc];exists ⟨s3.trans s39,⟨_,_,rfl⟩,λk' hk'=>?_⟩;rcases cN k' j with z | z
    ·exact hJ k' z
    ·obtain rfl:k'=j:=by lia
     rw[e5,e6,hc,tQ]
   ·rintro σ' H3 ⟨s3,⟨y2,y3,rfl⟩,hJ⟩;refine ⟨s3,⟨_,_,_,rfl⟩,λt' k' h1 h2=>?_⟩;rcases cN t' i with z | z
    ·exact hT t' k' z h2
    ·obtain rfl:t'=i:=by lia
     exact hJ k' h2
  ·rintro σ' H' ⟨s',⟨y1,y2,y3,rfl⟩,hT⟩;exists k true H' (s2.trans s') ⟨λ_=>TF.mpr hT,λ_=>rfl⟩
theorem iG:aU ["_law_script","_law_bag_here","_law_parts_here","_law_wide","_law_system_here","_law_weights_here","_law_steps_here","_law_start","_law_drawn","_law_goal","_law_found","_law_papers_here","_law_puts_here","_law_price","_law_one","_law_handed","_law_due","_law_told"] ["_law_script"] (aN Nw):=by walk_at "d"
theorem Tb (T:Txt K mg Z) (ptree:P.given.tree=none):cK P w K mg base fK 11 Z.RL Z.RK ["_law_script"] (Aq K):=by
 have J6:=GV (P:=P) (w:=w) (base:=base) T ptree;have CQ:=A2 (P:=P) (w:=w) (base:=base) T ptree;have IK:=EY (P:=P) (w:=w) (base:=base) T ptree;have Cn:=zH (P:=P) (w:=w) (base:=base) T ptree;have Fx:=CG (P:=P) (w:=w) (base:=base) T ptree;have fE:=kL (P:=P) (w:=w) (base:=base) T ptree;have IH:=EV (P:=P) (w:=w) (base:=base) T ptree;have vJ:=GU (P:=P) (w:=w) (base:=base) T ptree;have Q2:=N4 (P:=P) (w:=w) (base:=base) T ptree;have Ck:=GS (P:=P) (w:=w) (base:=base) T ptree;have CS:=A3 (P:=P) (w:=w) (base:=base) T ptree;have IG:=EU (P:=P) (w:=w) (base:=base) T ptree;refine T.RN.ok iG (λvs H Q E h=>?_) (λcdv A outer s H vs Q E hr h=>?_)
 ·obtain ⟨a,ns,rfl,_⟩:=h;rfl
 ·obtain ⟨a,ns,rfl,hS,hlen,k⟩:=h
  refine ⟨_,(ar (aS (i:=1) iG.nd rfl (Or.inl rfl) (cH J6 hr T.sv (ae (pv 0) ai)))
   (ar (fB (cH CQ hr T.my (ae (pv 1) ai)) (rX rfl (b9 (aO (i:=2) iG.nd) (b9 (aO (i:=3) iG.nd) fL))))
   (ar (aS (i:=4) iG.nd rfl (Or.inl rfl) (cH IK hr T.pZ (ae (pv 2) ai)))
   (ar (aS (i:=5) iG.nd rfl (Or.inl rfl) (cH Cn hr T.kY (ae (pv 1) (ae (bL be (by rfl) T.len a7 (ae (aW bU (pv 2) ak) ai)) (ae ak ai)))))
   (ar (aS (i:=6) iG.nd rfl (Or.inl rfl) (cH Fx hr T.ou (ae (pv 1) (ae (pv 2) ai))))
   (ar (aS (i:=7) iG.nd rfl (Or.inl rfl) (cH fE hr T.fN (ae (pv 1) (ae (bL be (by rfl) T.len a7 (ae (aW bU (pv 2) ak) ai)) (ae (pv 3) ai)))))
   (ar (aS (i:=8) iG.nd rfl (Or.inl rfl) (cH IH hr T.pV (ae (pv 1) (ae (pv 2) (ae (pv 6) (ae (pv 3) ai))))))
   (ar (aS (i:=9) iG.nd rfl (Or.inl rfl) (cH vJ hr T.kM (ae (pv 2) (ae (pv 7) (ae (pv 8) ai)))))
   (ar (aS (i:=10) iG.nd rfl (Or.inl rfl) (cH Q2 hr T.Bh (ae (pv 4) (ae (pv 5) (ae (pv 7) (ae (pv 9) (ae (pv 6) ai)))))))
   (ar (dh (PW.pt (tZ (bw Dx (aW bU (pv 10) ak) AR (bM _)) (pH (rV (rT (cH Ck hr T.mV (ae (pv 4) (ae (pv 5) (ae (pv 7) (ae (pv 9) (ae (aW bU (pv 10) ak) (ae (aW bU (pv 10) ak) ai)))))))))))) (aA (aV rY)) b8)
   (ar (aS (i:=11) iG.nd rfl (Or.inl rfl) (bI jP (cH CS hr T.mB (ae (pv 1) (ae (pv 4) (ae (aW bU (pv 10) ak) (ae (aW bU (pv 10) ak) (ae (pv 3) ai)))))) (dc (ae (cW (ae (pv 8) (ae (aW bU (pv 10) ak) ai))) ai))))
   (ar (dR PassesOwn.never rfl (cB (pv 11)) (rX rfl (b9 (aO (i:=12) iG.nd) (b9 (aO (i:=13) iG.nd) fL)))
    (aA (dR PassesOwn.never rfl (cB (dc (ae (pv 9) (ae (cH vJ hr T.kM (ae (pv 2) (ae (pv 7) (ae (pv 12) ai)))) (ae (cH fE hr T.fN (ae (pv 1) (ae (bL be (by rfl) T.len a7 (ae (pv 9) ai)) (ae (pv 3) ai)))) ai))))) (aO (i:=14) iG.nd)
    (ar (aS (i:=15) iG.nd rfl (Or.inl rfl) (dc (ae (du fP (by rfl) T.list PyProof.Rows.boot_list (ae (pv 7) ai)) (ae (du fP (by rfl) T.list PyProof.Rows.boot_list (ae (pv 14) ai)) (ae (bX ["_law_row_here"] [] [] (cB (pv 12)) (λ_=>(aO (i:=0) (show ND9 ["_law_row_here"] by decide +kernel))) (λ_=>cw) (λ_=>(du (iF K (by rfl)) (by rfl) T.list PyProof.Rows.boot_list (ae (pv 0) ai)))) (ae (du fP (by rfl) T.list PyProof.Rows.boot_list (ae (pv 13) ai)) ai))))))
   (gN (aS (i:=16) iG.nd rfl (Or.inl rfl) (Jt (mR (S9 (CK hr)) (cH vJ hr T.kM (ae (pv 2) (ae (pv 7) (ae (pv 12) ai)))) (pv 14) (bM _)) (Js (cH IG hr T.pU (ae (pv 2) (ae (pv 5) (ae (pv 12) (ae (pv 13) ai))))))))
   (ar (aS (i:=17) iG.nd rfl (Or.inl rfl) (cH Ck hr T.mV (ae (pv 4) (ae (du fP (by rfl) T.list PyProof.Rows.boot_list (ae (pv 5) ai)) (ae (aW bA (pv 15) ak) (ae (aW bA (pv 15) ak) (ae (aW bA (pv 15) ak) (ae (aW bA (pv 15) ak) ai))))))))
   (aA (dh (PW.pt (tZ (rV (rT (AU rfl T.isinstance PyProof.Rows.boot_bool T.bool (pv 17)))) (tZ (bw (pK (CK hr)) (pv 17) (pv 16) (bM _)) (pH (bw (pK (CK hr)) (pv 15) (dc (ae (pv 7) (ae (pv 14) (ae (pv 12) (ae (pv 13) ai))))) (bM _)))))) (aA (aV rY)) b8))))))))
   (aA (aV rY)))))))))))))),?_⟩
  refine aQ (σ:=[some (.ref a),none,none,none,none,none,none,none,none,none,none,none,none,none,none,none,none,none]) rfl ?_;exists ⟨a,ns,rfl,hS,hlen,λb H0 hb0 B0 s0=>?_⟩;exists ⟨b,rfl,B0,λt r w a' c' mv pt lk H1 g1 P1 D F KF RG w1 w2 B1 u1=>?_⟩;have d8:=D.n8;have d4:=D.i4;exists ⟨r,H0,mv,pt,lk,rfl,P1,D,F.sf,λx H2 nx s2 S2=>?_⟩;replace S2:jB K H0 H2 Z.a_System x mv pt lk:=S2.weakN λq h=>u1.none B1 h
  replace P1:=P1.same s2;have B2:=B1.same s2;obtain ⟨m,p,l,gt,mn,pn,ln,Gm,Gp,Gl⟩:=id P1;obtain ⟨up,gp,qp,_⟩:=id Gp;have lup:=qp.length;exists ⟨_,_,rfl,.inl (bF.of gp),?_⟩;rw[<- lup];clear gp qp lup Gm Gp Gl;exists ⟨b,pt.length,rfl,B2,by lia,λwq ws H3 nw Rw lw hw B3 u3=>?_⟩;have wb:wq≠b:=λz=>B2.at (by rw[<- z];exact nw)
  replace P1:=P1.upto u3 B2 B0.at;replace S2:=S2.upto u3 B2 B0.at
  have szE:∀xs∈mv++pt,∀x∈xs,kN x:=λxs hx y hy=>by
   obtain ⟨M,V,h0,h1,h2,f1,f2,_⟩:=F;refine QE h0 (ag h1 (av (by decide) (by decide))) (ag h2 (av (by decide) (by decide))) ?_;rcases aH.mp hx with hx | hx
   ·exact f1 xs hx y hy
   ·exact f2 xs hx y hy
  exists ⟨b,r,H0,mv,pt,lk,rfl,B3,B0.at,P1,D,szE,λtt H4 hT B4 u4=>?_⟩;clear szE;have t12:=hT.1;replace P1:=P1.upto u4 B3 B0.at;replace S2:=S2.upto u4 B3 B0.at;replace Rw:=Rw.upto u4 B3 wb;obtain ⟨m,p,l,gt,mn,pn,ln,Gm,Gp,Gl⟩:=id P1;obtain ⟨um,gm,qm,_⟩:=id Gm;have lum:=qm.length;exists ⟨_,_,rfl,.inl (bF.of gm),?_⟩;rw[<- lum];clear gm qm lum Gm Gp Gl gt;exists ⟨b,mv.length,w,rfl,B4,by lia,w1,by lia,λqs st H5 nqs Rs ls ds B5 u5=>?_⟩;have qb:qs≠b:=λz=>B4.at (by rw[<- z];exact nqs)
  replace P1:=P1.upto u5 B4 B0.at;replace S2:=S2.upto u5 B4 B0.at;replace Rw:=Rw.upto u5 B4 wb;exists ⟨b,r,tt,w,H0,mv,pt,lk,rfl,by lia,w1,w2,B5,B0.at,P1,D,λpa ua H6 npa Ga la da B6 u6=>?_⟩;have wA:∀xs∈ua,xs.length=pt.length:=λxs hx=>(da xs hx).1
  obtain ⟨go,hg⟩:∃go,tV mv pt st ua tt=go:=⟨_,rfl⟩;obtain ⟨EA,GA,sg,cf,⟨N,X,LF,LX⟩,SZ⟩:=Mm RG D hT ls ds ⟨la,da⟩ lw hw hg;have lg:go.length=mv.length:=by rw[<- hg];exact mM ls (by lia)
  replace P1:=P1.upto u6 B5 B0.at;replace S2:=S2.upto u6 B5 B0.at;replace Rw:=Rw.upto u6 B5 wb;replace Rs:=Rs.upto u6 B5 qb;have pab:pa≠b:=λz=>B5.at (by rw[<- z];exact npa)
  have B5a:=B5.at;clear B1 B2 B3 B4 u1 u3 u4 u5 RG hT;exists ⟨r,qs,pa,H0,_,mv,pt,lk,ua,st,rfl,P1,D,Rs,ls,Ga,by lia,wA,EA,λgq H7 ngq s7 Rg=>?_⟩;rw[la,hg] at Rg;have gqb:gq≠b:=λz=>B6.at (by rw[<- z];exact ngq)
  exists ⟨x,wq,qs,gq,tt,N,X,H0,mv,pt,lk,ws,st,go,rfl,S2.same s7,D,F,Rw.same s7,Rs.same s7,ls,Rg,lg,cf,sg,LF,λt8 e8 p8 y8 pr H8 g8 n8 n8' s8 N8 G8 R8 sl tp=>?_⟩;obtain ⟨GT,FT⟩:=LX pr sl.1 tp;have lT:=Ky (mv:=mv) (pt:=pt) (ws:=ws) (T:=tt) (x:=pr);have wT:=UQ (mv:=mv) (T:=tt) (x:=pr) lw;have hTl:=LW D ls lg lw sl;have hTi:=Sb (mv:=mv) (T:=tt) (pr:=pr) lw (λw h=>(hw w h).1);generalize vU mv pt ws tt pr=told at *
  have s68:=s7.trans s8;have B8:=B6.same s68;replace P1:=P1.same s68;replace S2:=S2.same s68;replace Rw:=Rw.same s68;replace Rs:=Rs.same s68;replace Rg:=Rg.same s8;replace Ga:=Ga.same s68;have p8b:p8≠b:=λz=>(B6.same s7).at (by rw[<- z];exact n8)
  have y8b:y8≠b:=λz=>(B6.same s7).at (by rw[<- z];exact n8')
  have B7a:=(B6.same s7).at;clear s7 s8 s68;walk_at "w";rw[decide_eq_true rfl];exists ⟨x,wq,qs,gq,p8,y8,tt,H0,_,mv,pt,lk,told,ws,st,go,pr,rfl,S2,D,F,Rw,lw,Rs,ls,Rg,G8,t12,R8,SZ told pr lT wT (GT.up (by decide) (by decide)) sl.1 (OY.up FT),λb1 H9 s9 hb1=>?_⟩;obtain rfl:b1=true:=hb1.mpr ⟨hTl,hTi⟩;clear hb1;have g9:=s9 _ _ g8;exists ⟨b,x,p8,y8,tt,a',c',w,H0,_,mv,pt,lk,told,pr,rfl,B8.same s9,B0.at,B7a,S2.same s9,D,KF,w1,by lia,p8b,y8b,G8.same s9,R8.same s9,lT,t12,wT,GT,sl.1,FT,λpl1 us1 HA npl1 uA BA gA lus1 PA=>?_⟩;have gA8:=uA.tup (B8.same s9) g9;exists cu λtB HB sB gB=>?_
  exists cS λlC HC sC nC gC=>?_
  walk_at "w";have sAC:=sB.trans sC;refine kW (sAC _ _ gA) gC (aT (br (by show us1.length+1<=1000;lia))) λpl HD sD npl gD=>?_
  have sAD:=sAC.trans sD;have u8D:cI b H8 HD:=(s9.upto.trans uA).same sAD;have BD:=BA.same sAD;replace P1:=P1.upto u8D B8 B0.at;replace S2:=S2.upto u8D B8 B0.at;replace Rw:=Rw.upto u8D B8 wb;replace Rs:=Rs.upto u8D B8 qb;replace Rg:=Rg.upto u8D B8 gqb;replace Ga:=Ga.upto u8D B8 pab B5a;have R8D:=R8.upto u8D B8 y8b
  have PD:∀u∈us1++[V.ref tB],kO K (λq=>q≠b) mv pt tt HD u:=λu hu=>by
   rcases aH.mp hu with hu | hu
   ·exact (PA u hu).same sAD
   ·rw[bW.mp hu];exact UR ((sC.trans sD) _ _ gB) Ga R8D pab y8b (λq zs h _ z=>B5a (by rw[<- z];exact h)) la wA (GA.up (by decide) (by decide)) sl.1 (OY.up FT)
  have plb:pl≠b:=λz=>((BA.same sB).same sC).at (by rw[<- z];exact npl)
  clear u8D PA gA8;exists ⟨⟨_,bF.of gD⟩,?_⟩;refine iX (K:=K) (a:=pl) (xs:=us1++[V.ref tB]) (λi σ' H'=>cI b HD H'/\gh H' b/\∃y1 y2 y3 y4 y5 y6,σ'=[some (.ref a),some (.ref b),some (.ref r),some (.int w),some (.ref x),some (.ref wq),some (.int tt),some (.ref qs),some (.ref pa),some (.ref gq),some (.ref t8),some (.ref pl),y1,y2,y3,y4,y5,y6]) ⟨(aI.refl _).upto,BD,_,_,_,_,_,_,rfl⟩ (λi σ' H' _ ⟨u,_⟩=>bF.of (u.other plb gD)) ?_ ?_
  ·rintro i v σ' HE hv ⟨uE,BE,y1,y2,y3,y4,y5,y6,rfl⟩;obtain ⟨tp',pq,yq,pus,pr',us,rfl,gt,pqb,yqb,gpq,qpq,nin,Ryq,lpq,wpq,gbq,lrq,prq⟩:=(PD v (ao hv)).upto uE BD (λz=>z rfl);have Sz:=SZ pus pr' lpq wpq gbq lrq prq;have Gpq:bB K (λ_=>none) HE pq pus:=⟨us,gpq,Ss qpq,nin⟩;have SE:=S2.upto uE BD B0.at;have PE:=P1.upto uE BD B0.at;have RwE:=Rw.upto uE BD wb;have RsE:=Rs.upto uE BD qb;have RgE:=Rg.upto uE BD gqb;exists ⟨r,qs,pq,H0,_,mv,pt,lk,pus,st,rfl,PE,D,RsE,ls,Gpq,by lia,wpq,Sz.en,λe1 HF nF sF RF=>?_⟩;have e1b:e1≠b:=λz=>BE.at (by rw[<- z];exact nF)
   obtain ⟨vg,gg,qg⟩:=RgE.same sF;have lvg:=qg.length;exists ⟨_,_,rfl,.inl (bF.of gg),?_⟩;rw[show vg.length=mv.length by lia];exists ⟨b,mv.length,w,rfl,BE.same sF,by lia,w1,by lia,λe2 o2 HG nG RG' lG dG BG uG=>?_⟩;have e2b:e2≠b:=λz=>(BE.same sF).at (by rw[<- z];exact nG)
   exists cS λli HI sI nI gI=>?_
   have uEI:cI b HE HI:=(sF.upto.trans uG).same sI;have BI:=BG.same sI;have lib:li≠b:=λz=>BG.at (by rw[<- z];exact nI)
   have hg3:∀v∈[V.ref gq,V.ref e1,V.ref e2],∃q o,v=V.ref q/\cz K HI q o:=λv hv=>by
    rcases aL.mp hv with rfl | hv
    ·exact ⟨gq,go,rfl,RgE.upto uEI BE gqb⟩
    rcases aL.mp hv with rfl | hv
    ·exact ⟨e1,_,rfl,(RF.upto uG (BE.same sF) e1b).same sI⟩
    ·rw[bW.mp hv];exact ⟨e2,o2,rfl,RG'.same sI⟩
   replace SE:=SE.upto uEI BE B0.at;replace PE:=PE.upto uEI BE B0.at;replace RwE:=RwE.upto uEI BE wb;replace RsE:=RsE.upto uEI BE qb;replace Ryq:=Ryq.upto uEI BE yqb;have GpI:bB K (λ_=>none) HI pq pus:=⟨us,uEI.other pqb gpq,Paired.imp' (λ_ _ ⟨q,e,c,d⟩=>⟨q,e,rfl,d.upto uEI BE c⟩) qpq,nin⟩;have uDI:=uE.trans uEI;clear RgE RF RG' gg qg gt;exists ⟨⟨_,bF.of gI⟩,?_⟩;refine iX (K:=K) (a:=li) (xs:=[.ref gq,.ref e1,.ref e2]) (λi σ' H'=>aI HI H'/\∃y3 y4 y5 y6,σ'=[some (.ref a),some (.ref b),some (.ref r),some (.int w),some (.ref x),some (.ref wq),some (.int tt),some (.ref qs),some (.ref pa),some (.ref gq),some (.ref t8),some (.ref pl),some (.ref pq),some (.ref yq),y3,y4,y5,y6]) ⟨aI.refl _,_,_,_,_,rfl⟩ (λi σ' H' _ ⟨s,_⟩=>bF.of (s _ _ gI)) ?_ ?_
   ·rintro j v σ' HJ hv2 ⟨sJ,y3,y4,y5,y6,rfl⟩;obtain ⟨q3,gv,rfl,R3⟩:=hg3 v (ao hv2);replace R3:=R3.same sJ;obtain ⟨zs3,gz3,qz3⟩:=id R3;obtain ⟨zsS,gzS,qzS⟩:=RsE.same sJ;exists ⟨qs,zsS,rfl,.inl (bF.of gzS),λc0 hc0=>?_⟩;have sc0:aI HJ (upd HJ c0 (.lst zsS)):=aI.new hc0;have Rc0:cz K (upd HJ c0 (.lst zsS)) c0 st:=⟨zsS,aJ,Paired.imp' (λ_ _ z=>z.same sc0) qzS⟩;generalize upd HJ c0 (.lst zsS)=HK at sc0 Rc0 ⊢;exists ⟨q3,zs3,rfl,.inl (bF.of (sc0 _ _ gz3)),λc1 hc1=>?_⟩;have sc1:aI HK (upd HK c1 (.lst zs3)):=aI.new hc1;have Rc1:cz K (upd HK c1 (.lst zs3)) c1 gv:=⟨zs3,aJ,Paired.imp' (λ_ _ z=>(z.same sc0).same sc1) qz3⟩;generalize upd HK c1 (.lst zs3)=HL at sc1 Rc1 ⊢;have sIL:=(sJ.trans sc0).trans sc1;obtain ⟨vp,gpL,qpL,_⟩:=GpI.same sIL;have lvp:=qpL.length;exists ⟨⟨_,bF.of gpL⟩,?_⟩;refine dm (K:=K) (as:=pus) (F:=cY K λ_=>none) (cY K HL) (λxs=>xs) gpL qpL (by lia) (λh s=>h.same s) (λh s=>h.same s) ?_ ?_
    ·rintro i xs x9 Hi NY NN ex si ⟨u,rfl,_,zs,gz,qz⟩ k1;exists ⟨u,zs,rfl,.inl (bF.of gz),λlq hlq=>?_⟩;exact k1 _ _ (aI.new hlq) ⟨lq,rfl,si.none hlq,zs,aJ,Paired.imp' (λ_ _ y=>b6.same y (aI.new hlq)) qz⟩
    rintro us2 HM c2 n2 sM gM prM nxM;rw[List.map_id'] at prM nxM;have GM:bB K HL HM c2 pus:=⟨us2,gM,prM,jD nxM⟩;have sIM:=sIL.trans sM;obtain ⟨zsY,gzY,qzY⟩:=Ryq.same sIM;exists ⟨yq,zsY,rfl,.inl (bF.of gzY),λc3 hc3=>?_⟩;have sc3:aI HM (upd HM c3 (.lst zsY)):=aI.new hc3;have Rc3:cz K (upd HM c3 (.lst zsY)) c3 pr':=⟨zsY,aJ,Paired.imp' (λ_ _ z=>z.same sc3) qzY⟩;generalize upd HM c3 (.lst zsY)=HN at sc3 Rc3 ⊢;exists cS λhd HO sO nO gO=>?_
    have sLO:=(sM.trans sc3).trans sO;have sIO:=sIL.trans sLO;have sJO:=(sc0.trans sc1).trans sLO;replace Rc0:=Rc0.same (sc1.trans sLO);replace Rc1:=Rc1.same sLO;replace GM:=GM.same (sc3.trans sO);replace Rc3:=Rc3.same sO;replace R3:=R3.same sJO;replace PE:=PE.same sIO;replace SE:=SE.same sIO;replace RwE:=RwE.same sIO;replace RsE:=RsE.same sIO;replace Ryq:=Ryq.same sIO;replace GpI:=GpI.same sIO;clear gz3 qz3 gzS qzS gpL qpL gzY qzY gM prM nxM;exists ⟨λσ' H'=>aI HO H'/\∃d z,(d=true↔tV mv pt st pus tt=gv/\Vf mv pt ws pus pr')/\σ'=[some (.ref a),some (.ref b),some (.ref r),some (.int w),some (.ref x),some (.ref wq),some (.int tt),some (.ref qs),some (.ref pa),some (.ref gq),some (.ref t8),some (.ref pl),some (.ref pq),some (.ref yq),some (.ref q3),some (.ref hd),some (.bl d),z],?_,?_⟩
    ·exists ⟨r,qs,pq,H0,_,mv,pt,lk,pus,st,rfl,PE,D,RsE,ls,GpI,by lia,wpq,Sz.en,λe3 HP nP sP RP=>?_⟩;rw[lpq] at RP;exists ⟨_,_,yH,_,_,by decide,RP.kind,(R3.same sP).kind,?_⟩;by_cases he:tV mv pt st pus tt=gv
     rotate_left
     ·rw[decide_eq_false he];refine ⟨_,rfl,?_⟩;rw[if_neg (by decide)];exists ⟨sP,false,_,⟨λz=>(by cases z),λz=>absurd z.1 he⟩,rfl⟩
     rw[decide_eq_true he];refine ⟨_,rfl,?_⟩;rw[if_pos rfl];exists ⟨r,wq,pq,yq,tt,H0,_,mv,pt,lk,pus,ws,st,pr',rfl,PE.same sP,D,LF.ad,RwE.same sP,lw,GpI.same sP,t12,Ryq.same sP,Sz,λb2 HR sR hb2=>?_⟩;exists ⟨sP.trans sR,b2,_,⟨λz=>⟨he,hb2.mp z⟩,λz=>hb2.mpr z.2⟩,rfl⟩
    rintro σ' HQ ⟨sQ,d,z,hd',rfl⟩;obtain ⟨zsW,gzW,qzW⟩:=RwE.same sQ;exists ⟨wq,zsW,rfl,.inl (bF.of gzW),λc4 hc4=>?_⟩;have sc4:aI HQ (upd HQ c4 (.lst zsW)):=aI.new hc4;have Rc4:cz K (upd HQ c4 (.lst zsW)) c4 ws:=⟨zsW,aJ,Paired.imp' (λ_ _ z=>z.same sc4) qzW⟩;generalize upd HQ c4 (.lst zsW)=HR at sc4 Rc4 ⊢;have sOR:=sQ.trans sc4;have gOR:=sOR _ _ gO;exists ⟨x,c4,c0,c1,c2,c3,tt,H0,_,mv,pt,lk,pus,ws,st,gv,pr',rfl,SE.same sOR,D,F,Rc4,lw,Rc0.same sOR,ls,Rc1.same sOR,GM.same sOR,t12,Rc3.same sOR,Sz,λb2 HS sS hb2=>?_⟩
    obtain rfl:b2=d:=by
     have:(b2=true)↔(d=true):=hb2.trans hd'.symm;cases b2 <;> cases d <;> simp_all
    exists ⟨_,_,.bl _,rfl,?_⟩;exists ⟨_,_,kBl,b2,b2,by decide,rfl,rfl,?_⟩;rw[decide_eq_true rfl];exists cS λcm HT sT nT gT=>?_
    have sOT:=(sOR.trans sS).trans sT;exists ⟨_,_,kLi [.inl st,.inl gv,.inr pus,.inl pr'],(),(),(by show 10<=50;decide),⟨hd,_,rfl,bF.of (sOT _ _ gO),.cons (Rc0.same sOT).kind (.cons (Rc1.same sOT).kind (.cons (GM.same sOT).kind (.cons (Rc3.same sOT).kind .nil)))⟩,⟨cm,_,rfl,bF.of gT,.cons (RsE.same sOT).kind (.cons (R3.same sOT).kind (.cons (GpI.same sOT).kind (.cons (Ryq.same sOT).kind .nil)))⟩,?_⟩;rw[decide_eq_true rfl];exists ⟨sJ.trans (sJO.trans sOT),_,_,_,_,rfl⟩
   ·rintro σ' HJ ⟨sJ,y3,y4,y5,y6,rfl⟩;exact ⟨uDI.same sJ,BI.same sJ,_,_,_,_,_,_,rfl⟩
  rintro σ' HE ⟨uE,BE,y1,y2,y3,y4,y5,y6,rfl⟩;exists k _
end
theorem ln1 {P:List Value->Prop} (h:∀x0,P [x0]):∀us:List Value,us.length=1->P us
 | [x0],_=>h x0
theorem ln2 {P:List Value->Prop} (h:∀x0 x1,P [x0,x1]):∀us:List Value,us.length=2->P us
 | [x0,x1],_=>h x0 x1
theorem ln3 {P:List Value->Prop} (h:∀x0 x1 x2,P [x0,x1,x2]):∀us:List Value,us.length=3->P us
 | [x0,x1,x2],_=>h x0 x1 x2
theorem ln4 {P:List Value->Prop} (h:∀x0 x1 x2 x3,P [x0,x1,x2,x3]):∀us:List Value,us.length=4->P us
 | [x0,x1,x2,x3],_=>h x0 x1 x2 x3
theorem ln5 {P:List Value->Prop} (h:∀x0 x1 x2 x3 x4,P [x0,x1,x2,x3,x4]):∀us:List Value,us.length=5->P us
 | [x0,x1,x2,x3,x4],_=>h x0 x1 x2 x3 x4
theorem ln6 {P:List Value->Prop} (h:∀x0 x1 x2 x3 x4 x5,P [x0,x1,x2,x3,x4,x5]):∀us:List Value,us.length=6->P us
 | [x0,x1,x2,x3,x4,x5],_=>h x0 x1 x2 x3 x4 x5
local macro_rules | `(tactic| walk_at "b") => `(tactic| (intro _ _ _ _ _ _; first | (refine ln1 ?_; intros; rfl) | (refine ln2 ?_; intros; rfl) | (refine ln3 ?_; intros; rfl) | (refine ln4 ?_; intros; rfl) | (refine ln5 ?_; intros; rfl) | (refine ln6 ?_; intros; rfl)))
theorem all_mk {l:W.OpenLaw} {K:W.Frag} 
 
  (X:K.In h) (G:h.Ns mainGlobals mg) (hfa:mg "law"=some (.ref fa)) (htree:l.prog.given.tree=none)
 (aC:W.nsIn K mainGlobals "System"=some (some (.ref C)))
  (h0:Dh K "_law_bag" vm f0 e0)
  (h1:Dh K "_law_take" rK f1 e1)
  (h2:Dh K "_law_sizes" lJ f2 e2)
  (h3:Dh K "_law_line" rS f3 e3)
  (h4:Dh K "_law_low" ve f4 e4)
  (h5:Dh K "_law_sum" vb f5 e5)
  (h6:Dh K "_law_plus" rN f6 e6)
  (h7:Dh K "_law_prod" rM f7 e7)
  (h8:Dh K "_law_by" xQ f8 e8)
  (h9:Dh K "_law_mixed" pF f9 e9)
  (h10:Dh K "_law_two_lines" kh f10 e10)
  (h11:Dh K "_law_number" nX f11 e11)
  (h12:Dh K "_law_row" vd f12 e12)
  (h13:Dh K "_law_move" rQ f13 e13)
  (h14:Dh K "_law_parts" pC f14 e14)
  (h15:Dh K "_law_system" nV f15 e15)
  (h16:Dh K "want_list" rn f16 e16)
  (h17:Dh K "is_whole" uZ f17 e17)
  (h18:Dh K "common_divisor" kg f18 e18)
  (h19:Dh K "is_number" rF f19 e19)
  (h20:Dh K "is_row" AI f20 e20)
  (h21:Dh K "copied_rows" nU f21 e21)
  (a22:W.findIn K (.ref C) "__init__"=some (some (.ref f22))) (i22:W.isFn K (.ref f22)=true) (l22:K.lookup f22=some ⟨oc22,od22,.func (W.fnOf "__init__" "System.__init__" (jY eK) (jb eK) (aN eK) .none kV22 dc22 pm22 an22 cd22 ct22),sl22⟩) (c22:W.codeIn K cd22 "System.__init__"=true) (k22:W.keepIn K (.ref f22)=true)
  (h23:Dh K "_law_copied" nY f23 e23)
  (h24:Dh K "_law_made" rR f24 e24)
  (h25:Dh K "_law_weights" ma f25 e25)
  (h26:Dh K "_law_steps" pA f26 e26)
  (h27:Dh K "_law_puts" rL f27 e27)
  (h28:Dh K "_law_dot" vh f28 e28)
  (h29:Dh K "_law_on" xP f29 e29)
  (h30:Dh K "_law_next" rO f30 e30)
  (h31:Dh K "_law_end" vf f31 e31)
  (h32:Dh K "common_multiple" jM f32 e32)
  (h33:Dh K "common_bottom" kU f33 e33)
  (h34:Dh K "tops_over" rB f34 e34)
  (h35:Dh K "lowest" AG f35 e35)
  (h36:Dh K "row_dot" xG f36 e36)
  (h37:Dh K "grid_on" xN f37 e37)
  (h38:Dh K "moved_rows" o9 f38 e38)
  (h39:Dh K "additions" rH f39 e39)
  (h40:Dh K "minus" EI f40 e40)
  (h41:Dh K "row_minus" rD f41 e41)
  (h42:Dh K "grid_turned" nQ f42 e42)
  (a43:W.findIn K (.ref C) "moved"=some (some (.ref f43))) (i43:W.isFn K (.ref f43)=true) (l43:K.lookup f43=some ⟨oc43,od43,.func (W.fnOf "moved" "System.moved" (jY gK) (jb gK) (aN gK) .none kV43 dc43 pm43 an43 cd43 ct43),sl43⟩) (c43:W.codeIn K cd43 "System.moved"=true) (k43:W.keepIn K (.ref f43)=true)
  (h44:Dh K "course" AJ f44 e44)
  (h45:Dh K "nought_row" o8 f45 e45)
  (h46:Dh K "nothing_for" nN f46 e46)
  (h47:Dh K "lacking" xM f47 e47)
  (h48:Dh K "first_with" ph f48 e48)
  (h49:Dh K "cleared" xO f49 e49)
  (h50:Dh K "brought_up" pk f50 e50)
  (h51:Dh K "swept" EE f51 e51)
  (h52:Dh K "solved" AD f52 e52)
  (h53:Dh K "solve" EG f53 e53)
  (h54:Dh K "flat" Jj f54 e54)
  (h55:Dh K "grid_times" pe f55 e55)
  (h56:Dh K "parted" AE f56 e56)
  (h57:Dh K "parted_by" rE f57 e57)
  (h58:Dh K "led_to" AH f58 e58)
  (h59:Dh K "come" Jk f59 e59)
  (h60:Dh K "puts_at" xI f60 e60)
  (h61:Dh K "least" EJ f61 e61)
  (a62:W.findIn K (.ref C) "turned"=some (some (.ref f62))) (i62:W.isFn K (.ref f62)=true) (l62:K.lookup f62=some ⟨oc62,od62,.func (W.fnOf "turned" "System.turned" (jY fI) (jb fI) (aN fI) .none kV62 dc62 pm62 an62 cd62 ct62),sl62⟩) (c62:W.codeIn K cd62 "System.turned"=true) (k62:W.keepIn K (.ref f62)=true)
  (h63:Dh K "times" ED f63 e63)
  (a64:W.findIn K (.ref C) "seen"=some (some (.ref f64))) (i64:W.isFn K (.ref f64)=true) (l64:K.lookup f64=some ⟨oc64,od64,.func (W.fnOf "seen" "System.seen" (jY iE) (jb iE) (aN iE) .none kV64 dc64 pm64 an64 cd64 ct64),sl64⟩) (c64:W.codeIn K cd64 "System.seen"=true) (k64:W.keepIn K (.ref f64)=true)
  (h65:Dh K "is_least" va f65 e65)
  (h66:Dh K "reduced" xH f66 e66)
  (h67:Dh K "reach_grown" nM f67 e67)
  (h68:Dh K "reach_rows" o7 f68 e68)
  (h69:Dh K "unit_row" uY f69 e69)
  (h70:Dh K "leading_place" kT f70 e70)
  (h71:Dh K "leading" xK f71 e71)
  (h72:Dh K "null_at" xJ f72 e72)
  (h73:Dh K "free_places" nR f73 e73)
  (h74:Dh K "nulls" EH f74 e74)
  (h75:Dh K "taken_over" o6 f75 e75)
  (h76:Dh K "unsteered" rz f76 e76)
  (h77:Dh K "_law_papers" nW f77 e77)
  (h78:Dh K "_law_added" pG f78 e78)
  (h79:Dh K "_law_tied" rJ f79 e79)
  (h80:Dh K "law" Nw f80 e80)
 (ca0:W.nsIn K mainGlobals "NOUGHT"=some (some (.ref m0))) (cl0:K.lookup m0=some ⟨.type "tuple",mo0,.seq #[.int 0 mt0_0,.int 1 mt0_1] mn0,ms0⟩)
 (ca1:W.nsIn K mainGlobals "ONE"=some (some (.ref m1))) (cl1:K.lookup m1=some ⟨.type "tuple",mo1,.seq #[.int 1 mt1_0,.int 1 mt1_1] mn1,ms1⟩)
 (ci0:W.nsIn K mainGlobals "MOST_STATES"=some (some (.int 8 it0)))
 (ci1:W.nsIn K mainGlobals "MOST_PUTS"=some (some (.int 4 it1)))
 (ci2:W.nsIn K mainGlobals "MOST_LOOKS"=some (some (.int 4 it2)))
  (pg:W.plainGet K C Str.empty=true) (hd:W.hasDictIn K C=true) (po:W.plainOver K C=true) (sa:W.findIn K (.ref C) "__setattr__"=some (some (.builtin "object.__setattr__"))) (mk:W.makesIn K C=true) (kc:W.keepIn K (.ref C)=true)
  (n_move:W.findIn K (.ref C) "move"=some none)
  (n_states:W.findIn K (.ref C) "states"=some none)
  (n_put:W.findIn K (.ref C) "put"=some none)
  (n_ins:W.findIn K (.ref C) "ins"=some none)
  (n_look:W.findIn K (.ref C) "look"=some none)
  (n_outs:W.findIn K (.ref C) "outs"=some none)
  (z_abs:W.nsIn K mainGlobals "abs"=some none)
  (z_len:W.nsIn K mainGlobals "len"=some none)
  (z_min:W.nsIn K mainGlobals "min"=some none)
  (z_int:W.nsIn K mainGlobals "int"=some none)
  (z_range:W.nsIn K mainGlobals "range"=some none)
  (z_isinstance:W.nsIn K mainGlobals "isinstance"=some none)
  (z_list:W.nsIn K mainGlobals "list"=some none)
  (z_bool:W.nsIn K mainGlobals "bool"=some none)
  (z_tuple:W.nsIn K mainGlobals "tuple"=some none)
  (z_all:W.nsIn K mainGlobals "all"=some none)
  (z_enumerate:W.nsIn K mainGlobals "enumerate"=some none)
  (z_max:W.nsIn K mainGlobals "max"=some none)
  (z_zip:W.nsIn K mainGlobals "zip"=some none)
  (z_sum:W.nsIn K mainGlobals "sum"=some none)
  (z_reversed:W.nsIn K mainGlobals "reversed"=some none)
  : ∃fd:FuncData,(∀(s:Shared) (v:Value),BindsTo s fd ⟨[v],[]⟩ [("_law_script",v)])/\∀base:Heap,K.In base->base.Ns mainGlobals mg->cK l.prog w K mg base fK 11 fa fd ["_law_script"] (Aq K):=by
 have e:=hfa.symm.trans (W.mg_of X G h80.a);cases e;obtain ⟨_,_,_,_,_,_,_,_,_,rfl,_,_⟩:=h80.F.ex;have F22:=Bs (st:=eK) l22 c22 k22;have F43:=Bs (st:=gK) l43 c43 k43;have F62:=Bs (st:=fI) l62 c62 k62;have F64:=Bs (st:=iE) l64 c64 k64
 have T:Txt K mg ⟨f0,_,f1,_,f2,_,f3,_,f4,_,f5,_,f6,_,f7,_,f8,_,f9,_,f10,_,f11,_,f12,_,f13,_,f14,_,f15,_,f16,_,f17,_,f18,_,f19,_,f20,_,f21,_,f22,_,f23,_,f24,_,f25,_,f26,_,f27,_,f28,_,f29,_,f30,_,f31,_,f32,_,f33,_,f34,_,f35,_,f36,_,f37,_,f38,_,f39,_,f40,_,f41,_,f42,_,f43,_,f44,_,f45,_,f46,_,f47,_,f48,_,f49,_,f50,_,f51,_,f52,_,f53,_,f54,_,f55,_,f56,_,f57,_,f58,_,f59,_,f60,_,f61,_,f62,_,f63,_,f64,_,f65,_,f66,_,f67,_,f68,_,f69,_,f70,_,f71,_,f72,_,f73,_,f74,_,f75,_,f76,_,f77,_,f78,_,f79,_,fa,_,m0,m1,it0,it1,it2,C⟩:={
  sv:=h0.D X G
  aR:=h1.D X G
  ow:=h2.D X G
  jW:=h3.D X G
  iV:=h4.D X G
  gZ:=h5.D X G
  jV:=h6.D X G
  ig:=h7.D X G
  p5:=h8.D X G
  kD:=h9.D X G
  jU:=h10.D X G
  mC:=h11.D X G
  fN:=h12.D X G
  pY:=h13.D X G
  ox:=h14.D X G
  my:=h15.D X G
  jS:=h16.D X G
  mU:=h17.D X G
  fM:=h18.D X G
  pS:=h19.D X G
  xZ:=h20.D X G
  iU:=h21.D X G
  j3:=F22.binds (ps:=["self","move","put","look"]) λ_ _ _ _ _ _=>by refine ln4 ?_;intros;rfl
  ni:=F22
  iW:=h23.D X G
  pZ:=h24.D X G
  kY:=h25.D X G
  ou:=h26.D X G
  pV:=h27.D X G
  mW:=h28.D X G
  pW:=h29.D X G
  pX:=h30.D X G
  kM:=h31.D X G
  jz:=h32.D X G
  d7:=h33.D X G
  ie:=h34.D X G
  ja:=h35.D X G
  jy:=h36.D X G
  iT:=h37.D X G
  kB:=h38.D X G
  pT:=h39.D X G
  wg:=h40.D X G
  pP:=h41.D X G
  fD:=h42.D X G
  qI:=⟨a43,i43,k43⟩
  tm:=F43.binds (ps:=["self","state","puts"]) λ_ _ _ _ _ _=>by refine ln3 ?_;intros;rfl
  tz:=F43
  tL:=h44.D X G
  jm:=h45.D X G
  mo:=h46.D X G
  vF:=h47.D X G
  oo:=h48.D X G
  vG:=h49.D X G
  ot:=h50.D X G
  we:=h51.D X G
  tK:=h52.D X G
  Bf:=h53.D X G
  zT:=h54.D X G
  kC:=h55.D X G
  xX:=h56.D X G
  lQ:=h57.D X G
  xY:=h58.D X G
  E4:=h59.D X G
  vD:=h60.D X G
  Bh:=h61.D X G
  oJ:=⟨a62,i62,k62⟩
  qL:=F62.binds (ps:=["self"]) λ_ _ _ _ _ _=>by refine ln1 ?_;intros;rfl
  qO:=F62
  Be:=h63.D X G
  sL:=⟨a64,i64,k64⟩
  uF:=F64.binds (ps:=["self","state"]) λ_ _ _ _ _ _=>by refine ln2 ?_;intros;rfl
  uT:=F64
  mV:=h65.D X G
  pQ:=h66.D X G
  mi:=h67.D X G
  oj:=h68.D X G
  so:=h69.D X G
  kr:=h70.D X G
  pR:=h71.D X G
  vE:=h72.D X G
  jT:=h73.D X G
  Bg:=h74.D X G
  oi:=h75.D X G
  pO:=h76.D X G
  mB:=h77.D X G
  oy:=h78.D X G
  pU:=h79.D X G
  RN:=h80.F
  abs:=W.mg_none_of X G z_abs
  len:=W.mg_none_of X G z_len
  min:=W.mg_none_of X G z_min
  int:=W.mg_none_of X G z_int
  range:=W.mg_none_of X G z_range
  isinstance:=W.mg_none_of X G z_isinstance
  list:=W.mg_none_of X G z_list
  bool:=W.mg_none_of X G z_bool
  tuple:=W.mg_none_of X G z_tuple
  all:=W.mg_none_of X G z_all
  enumerate:=W.mg_none_of X G z_enumerate
  max:=W.mg_none_of X G z_max
  zip:=W.mg_none_of X G z_zip
  sum:=W.mg_none_of X G z_sum
  reversed:=W.mg_none_of X G z_reversed
  mg_NOUGHT:=W.mg_of X G ca0
  sq_NOUGHT:=λH=>.inr ⟨_,_,_,cl0,rfl,rfl,jI rfl,.cons ⟨_,rfl⟩ (.cons ⟨_,rfl⟩ (.nil))⟩
  mg_ONE:=W.mg_of X G ca1
  sq_ONE:=λH=>.inr ⟨_,_,_,cl1,rfl,rfl,jI rfl,.cons ⟨_,rfl⟩ (.cons ⟨_,rfl⟩ (.nil))⟩
  mg_MOST_STATES:=W.mg_of X G ci0
  mg_MOST_PUTS:=W.mg_of X G ci1
  mg_MOST_LOOKS:=W.mg_of X G ci2
  mg_System:=W.mg_of X G aC
  cl_System:=⟨pg,hd,po,sa⟩
  na_move:=n_move
  na_states:=n_states
  na_put:=n_put
  na_ins:=n_ins
  na_look:=n_look
  na_outs:=n_outs
  mk_System:=⟨mk,a22,i22,kc⟩ }
 exact ⟨_,λs v=>.of_eq rfl,λbase _ _=>Tb T htree⟩
theorem walk {l:W.OpenLaw} {K:Params->W.Frag} (hn:l.most=some 63) (hdf:d.params.defaults=[])
  (hi:PyProof.Rows.importsNone q=true)
  (hY:∀(w:World) (h:Heap),YP w h->(K w.params).In h)
  (F:∀(w:World) (mg:Str->Option Value) (fa:Addr) (h:Heap),(K w.params).In h->h.Ns mainGlobals mg->mg d.name=some (.ref fa) →
   ∃fd:FuncData,(∀(s:Shared) (u:Value),BindsTo s fd ⟨[u],[]⟩ [("_law_script",u)])/\∀base:Heap,(K w.params).In base->base.Ns mainGlobals mg->cK l.prog w (K w.params) mg base fK 11 fa fd ["_law_script"] (Aq (K w.params))) :
  W.WalkO q loose XP YP l.row.toRowW d [] (λf vs=>PySem.call f vs) :=
 L2.Pf (n:=63) (k:=11) (x:="_law_script") (CX:=λ_=>fK) (sp:=λw=>Aq (K w.params)) hn (by decide) hdf ⟨rfl,by decide,by decide⟩ hi hY F (λ_ _ a ns hl _ hS=>⟨a,ns,rfl,hS,hl,λ_=>rfl⟩) λ_ _ _ _ _ z=>z
end Lw
namespace PySem.W.Fast
def tw16683689537781475120:=()
def tw10660533979331921379:=()
def tw6782893212610537480:=()
def tw2352284946845588750:=()
def tw5876309982695586773:=()
def tw10241430264048260850:=()
def tw5620060028656392501:=()
def tw7769927315044215480:=()
def tw7798344489197285226:=()
def tw12643232993846475942:=()
def tw12671283552043047521:=()
def tw17215753868224824093:=()
def tw1269477791986193875:=()
def tw5380586138111310331:=()
def tw16228104094687256729:=()
def tw8308784413638685403:=()
def tw13221600139643531584:=()
def tw5792902207656026163:=()
def tw8313932093446009626:=()
def tw16088036001345150498:=()
def tw17054955395504542968:=()
def tw3320999351188352867:=()
def tw5306684486873601264:=()
def tw11031413314338299431:=()
def tw16504786964041975623:=()
def tw10019434339566934278:=()
def tw8333796455600062421:=()
def tw2493700139737637666:=()
def tw5178449705350988609:=()
def tw3918349351438860770:=()
def tw10721335460878827810:=()
def tw15619695661886135728:=()
def tw4024970433717961245:=()
def tw16979764157803100839:=()
def tw2373376488665684774:=()
def tw13450725805477097867:=()
def tw17890955645074399554:=()
def tw8580194429040422594:=()
def tw10708217736641542301:=()
def tw3315521587608106731:=()
def tw7648584617138559419:=()
def tw10732738074974554738:=()
def tw15017800534125031562:=()
def tw12975578606041496399:=()
def tw6155238763578337779:=()
def tw3423029869739578061:=()
def tw15338431646065444697:=()
def tw12290041600055387877:=()
def tw11360516251332471849:=()
def tw2923175506550504717:=()
def tw5754086359306952283:=()
def tw3878111481735605822:=()
def tw8543099467945106774:=()
def tw8348927980582368422:=()
def tw2295997977892370757:=()
def tw8137942771116114807:=()
def tw9692612105366283532:=()
def tw605268864513497269:=()
def tw9176636735746281302:=()
def tw11909669803050519372:=()
def tw14544222639281412534:=()
def tw9885098556448350069:=()
def tw8509709448332702067:=()
def tw17078884919015733070:=()
def tw4990631157660572650:=()
def tw9476657919915788723:=()
def tw3025433449689768608:=()
def tw3464388622503435749:=()
def tw776279933541138468:=()
def tw11582924488521671457:=()
def tw16384772975636867013:=()
def tw16240041973026532631:=()
def tw12765698853331272415:=()
def tw11310961458180331007:=()
def tw6740000053670246801:=()
def tw10403094091729282917:=()
def tw9901640242772707713:=()
def tw14770849194105814385:=()
def tw1236286424541763260:=()
def tw13735391501411138078:=()
def tw2186971684356633280:=()
def tw15285062842757534858:=()
def tw18216918289170485480:=()
def tw17095975256297314521:=()
def tw4934967367999935173:=()
def tw14579397935815295003:=()
def tw90597369700255356:=()
def tw3568303971832044896:=()
def tw8711617363077966726:=()
def tw5698642683244788744:=()
def tw8065358491820997011:=()
def tw17524158217779713469:=()
def tw12897257758398076732:=()
def tw13902838804835222768:=()
def tw3350613134732781493:=()
def tw17712220224481126951:=()
def tw10350843254343551199:=()
def tw10785264788357680240:=()
def tw1346552548527868042:=()
def tw805240883741439286:=()
def tw12075442591845110818:=()
def tw8096966072834842935:=()
def tw11842202959081899188:=()
def tw11428823094104371271:=()
def tw10338417305162835542:=()
def tw14192010806133183352:=()
def tw2829781290953255268:=()
def tw15888182652715881187:=()
def tw15238753073846463312:=()
def tw4561463452986139948:=()
def tw11371713447522012558:=()
def tw5798047150354659760:=()
def tw2007351898991972532:=()
def tw13395479588006105030:=()
def tw6148818806872811320:=()
def tw11938809898057088370:=()
def tw9740855438694208268:=()
def tw196716256574201509:=()
def tw9957019131894906971:=()
def tw377241603117998643:=()
def tw13406846022616114462:=()
def tw11952631531875364414:=()
def tw7932641199647149571:=()
def tw7919613092510759852:=()
def tw15188558045353160930:=()
def tw16495868561316641798:=()
def tw1508037595449347268:=()
def tw6549780802183219941:=()
def tw14055718345556304995:=()
def tw103508250793369165:=()
def tw9428565591126486220:=()
def tw13011708217186793095:=()
def tw7266501902637472614:=()
def tw775423424037812760:=()
def tw11829865945792574010:=()
def tw10317796805439054053:=()
def tw7421625095309263242:=()
def tw10299511658881314386:=()
def tw15190858182910915379:=()
def tw3061491550218344194:=()
def tw7487941767518487466:=()
def tw15200079868007984158:=()
def tw6102880651479100333:=()
def tw1583163623022516517:=()
def tw6191966978955274628:=()
def tw8508749858993287092:=()
def tw8680932572727945027:=()
def tw5106633588461473566:=()
def tw12181311110167003407:=()
def tw18067915383243381996:=()
def tw4379182259786631152:=()
def tw1984925357294691606:=()
def tw9989902265407150231:=()
def tw13739762112249915702:=()
def tw16103780170660893089:=()
def tw4837069765774751985:=()
def tw18238484284103695852:=()
def tw7113745453180323490:=()
def tw5386613304214373039:=()
def tw9893633521895414955:=()
def tw9501304520845587734:=()
def tw10420517572223496137:=()
def tw6834100651539806528:=()
def tw14061656735185791058:=()
def tw13447456293724275345:=()
def tw1725703650490395503:=()
def tw9908978024380175747:=()
def tw1205918684923329976:=()
def tw6865438158551307993:=()
def tw3970633752141859823:=()
def tw392130998686113124:=()
def tw12144156701893959204:=()
def tw17915289889757560393:=()
def tw17855335518065837872:=()
def tw5497661631895448953:=()
def tw8477805844663400387:=()
def tw9546168683986383232:=()
def tw2235661162602445753:=()
def tw13984268029206768237:=()
def tw3265101037094273860:=()
def tw4048936793548754038:=()
def tw10562026687321298909:=()
def tw13740678908910663786:=()
def tw7537634093206835906:=()
def tw4312482889135889161:=()
def tw11671914864080504210:=()
def tw14550105778369175981:=()
def tw4869724618625376019:=()
def tw17458793162019669344:=()
def tw15770239354734013517:=()
def tw9510169120415349982:=()
def tw5024680823759185796:=()
def tw14080323629690452749:=()
def tw5814231903671476389:=()
def tw13353451457433983111:=()
def tw17208891050564911046:=()
def tw16381083968567773704:=()
def tw9081596633856713100:=()
def tw13392773274376819947:=()
def tw2551202522182141731:=()
def tw1409415339255554484:=()
def tw4470924712652667252:=()
def tw17753193855115230848:=()
def tw15484877869338370026:=()
def tw2957994616301202376:=()
def tw15502622476035641874:=()
def tw2517543435545974532:=()
def tw6991064663624953196:=()
def tw13103574830281792525:=()
def tw12217653999135878131:=()
def tw5869660241562173397:=()
def tw7616216538586322815:=()
def tw3064700259937385711:=()
def tw3871406494599252642:=()
def tw2980763024091542028:=()
def tw16134994090341935779:=()
def tw36569939539405420:=()
def tw12803289606873776051:=()
def tw4840179056057143711:=()
def tw12646786637020037533:=()
def tw16876185624589652397:=()
def tw12822285670212199197:=()
def tw9202766309429461056:=()
def tw3902020417863637930:=()
def tw11247281142243664761:=()
def tw4335084935898248939:=()
def tw3414173168897774169:=()
def tw15535261764100808637:=()
def tw309988349641126073:=()
def tw4876750677905340209:=()
def tw17633236633530907706:=()
def tw10900239546106378160:=()
def tw2932497297600647523:=()
def tw13623118611271317939:=()
def tw18358668179283590186:=()
def tw13329411790581485078:=()
def tw12593641359240127715:=()
def tw11127146168870936612:=()
def tw8487632724396000:=()
def tw6238095538488032139:=()
def tw18189260904277085358:=()
def tw6777322521706111439:=()
def tw16568856248258318869:=()
def tw1142519300348493381:=()
def tw18127673943721320381:=()
def tw16125238617868254004:=()
def tw3044895302247951890:=()
def tw5227461710507489040:=()
def tw721981539463225217:=()
def tw15374795686210979859:=()
def tw5189994001047098133:=()
def tw17366014223158060716:=()
def tw15686909836556272639:=()
def tw12713387460469435021:=()
def tw18253087942992101755:=()
def tw3663309583955966003:=()
def tw7715127906831034271:=()
def tw182981255313054311:=()
def tw6779971992938895747:=()
def tw12709068691200803931:=()
def tw2224983342719503824:=()
def tw4231663154318506437:=()
def tw5362000403642772535:=()
def tw13489290452524904241:=()
def tw3183396280525029026:=()
def tw11181102067978626791:=()
def tw1063236781214757337:=()
def tw13556750243668658811:=()
def tw11388902071208214752:=()
def tw12125310157157319324:=()
def tw15395258338839293539:=()
def tw204792153390072576:=()
def tw205903588379778457:=()
def tw5358522782743743957:=()
def tw3225280480890427374:=()
def tw1049918672299899103:=()
def tw5495641582489375754:=()
def tw11846629521550079138:=()
def tw3811570820408856270:=()
def tw14293356549895027175:=()
def tw6914972268802623946:=()
def tw3820460078558632975:=()
def tw8831474568753429734:=()
def tw5350249287485363492:=()
def tw13700714334691639707:=()
def tw821283974776784517:=()
def tw15690506743252737752:=()
def tw10041201664198387573:=()
def tw13847582487426111248:=()
def tw8400690449709284954:=()
def tw10213096241080261374:=()
def tw2865070032506969539:=()
def tw7184803836602633673:=()
def tw9312662360069212146:=()
def tw8316115777629352714:=()
def tw11833768968945835255:=()
def tw2889173037197195448:=()
def tw10284706497516441290:=()
def tw10286200992485432632:=()
def tw17649734268417399025:=()
def tw8282795992375367368:=()
def tw13616702174082907139:=()
def tw8084980708267581741:=()
def tw14866247974029826675:=()
def tw18031895543021820164:=()
def tw374350675902248806:=()
def tw4242430783690481298:=()
def tw3130307019328106309:=()
def tw7240517991818945582:=()
def tw13210042347358354641:=()
def tw11222176042669436711:=()
def tw14427960760731654290:=()
def tw2660724118137549642:=()
def tw13309904911231989126:=()
def tw11074004125014760249:=()
def tw10393040650724518158:=()
def tw16238770017040911149:=()
def tw6859772913053915124:=()
def tw12528058800463196183:=()
def tw2200206282191094535:=()
def tw88366333972806535:=()
def tw17144543544367371535:=()
def tw14296365952479406674:=()
def tw16552286189565395181:=()
def tw494233449932904679:=()
def tw9510249416297583870:=()
def tw911079897746116398:=()
def tw8475516176204553236:=()
def tw9688236818779681931:=()
def tw9354367718868127512:=()
def tw17255737276070206880:=()
def tw4339856178847760803:=()
def tw14326261495326488099:=()
def tw4631638382447577525:=()
def tw16298821874320743923:=()
def tw15950747550594766363:=()
def tw17314702834549467595:=()
def tw12655471993275113838:=()
def tw9058216441811842359:=()
def tw17143138027112754281:=()
def tw2489056608197796533:=()
def tw1224843275815945758:=()
def tw6561274323769384807:=()
def tw14104780133729222663:=()
def tw16603948008658080812:=()
def tw7692112023723201706:=()
def tw9581656111050617639:=()
def tw12633502848050362120:=()
def tw4803777542129069982:=()
def tw11796372349571650496:=()
def tw7273727874910994297:=()
def tw10079218652987178322:=()
def tw14415288459785982915:=()
def tw5528018330157009277:=()
def tw17301250057388353564:=()
def tw4131779404834855847:=()
def tw2379043429782075020:=()
def tw12591092939030557021:=()
def tw12010934031296651507:=()
def tw5507416263131541186:=()
def tw10307694241850797858:=()
def tw9474504280139746550:=()
def tw16979249199313081348:=()
def tw765203448919979508:=()
def tw14176413887244900695:=()
def tw8171886288432905584:=()
def tw14600345733508764439:=()
def tw6561526816605216469:=()
def tw15203546507058652857:=()
def tw15616733111177745323:=()
def tw18180928012221813914:=()
def tw16225797639801588588:=()
def tw6629805795516321773:=()
def tw16561989863492500644:=()
def tw5800786129027433673:=()
def tw7842343279289278768:=()
def tw8156714809775093010:=()
def tw13062092241888789704:=()
def tw2911385950208218059:=()
def tw5584057617816422248:=()
def tw5804729138302791729:=()
def tw13603768911430517659:=()
def tw10804796739697608364:=()
def tw5829017903902944214:=()
def tw4642181957098447349:=()
def tw8722707499017682766:=()
def tw8192094284190559469:=()
def tw4114370879656075051:=()
def tw10150785860817745865:=()
def tw1281062891502123082:=()
def tw17989816046607535828:=()
def tw1171013382083468647:=()
def tw15352788284310736366:=()
def tw8387951829280349884:=()
def tw3233220433082402616:=()
def tw6395998037761549624:=()
def tw12305655592195023296:=()
def tw5424455077421557272:=()
def tw1585461529112538914:=()
def tw2517706384717871824:=()
def tw12685314541240284479:=()
def tw7915305978777948194:=()
def tw18169103090879248736:=()
def tw16234963834890426227:=()
def tw13476932869053523236:=()
def tw14646961338250218582:=()
def tw7571913643409159822:=()
def tw4279634959759753984:=()
def tw6053598591150469697:=()
def tw10219366820249247310:=()
def tw10247853599455199230:=()
def tw3279632878983231805:=()
def tw2239188128598802524:=()
def tw18225949595017423748:=()
def tw2714997331805867202:=()
def tw17888399876117381610:=()
def tw7824190693769938624:=()
def tw4872454404318903327:=()
def tw12591473949301272208:=()
def tw7531047740296302899:=()
def tw943167475834615902:=()
def tw7698174536201278160:=()
def tw6766807080516485569:=()
def tw18021267769131282685:=()
def tw4020442669542995113:=()
def tw736716046738002342:=()
def tw15450258211257504591:=()
def tw4914892988361818820:=()
def tw6818204663688959809:=()
def tw3892290383788311262:=()
def tw14739910809487540613:=()
def tw3209280945728395514:=()
def tw14440898551230132152:=()
def tw15873377615981201464:=()
def tw5561253186199081302:=()
def tw4174522619141538480:=()
def tw3107860504163973958:=()
def tw10408479935416263864:=()
def tw4007359716228608079:=()
def tw8933331520235864030:=()
def tw15491308384340654644:=()
def tw13922206141817231165:=()
def tw1652959747659848952:=()
def tw4103523831745978825:=()
def tw5766986501609779481:=()
def tw4132594569583947618:=()
def tw6317869546440650035:=()
def tw3102024705884658073:=()
def tw8387189736973713857:=()
def tw13197973940732547435:=()
def tw3608182947535931963:=()
def tw17602719217056503070:=()
def tw12597040620721389881:=()
def tw13567329191414928932:=()
def tw14615365517826836422:=()
def tw7406440544908123805:=()
def tw14848488766895898960:=()
def tw9797397292979963154:=()
def tw17641010949459186000:=()
def tw10172285825955194634:=()
theorem te16683689537781475120:True:=trivial
end PySem.W.Fast
open PySem PySem.W PyProof.Rows
set_option maxRecDepth 100000 in
set_option maxHeartbeats 0 in
theorem PySem.Challenge.cw_helmsum_k63_papers_of_least_holds : PySem.Challenge.rw_helmsum_k63_papers_of_least.Holds := by
 w_on;o_law;k_head;(case hw=>w_witness2)
 k_fill
 refine Lw.walk (l:=PySem.Challenge.rw_helmsum_k63_papers_of_least) rfl rfl ?hi (λw h Y=>PySem.W.kIn_of Y) ?F
 case hi=>decide +kernel
 case F =>
  intro w mg fa h KX G hmg;refine' Lw.all_mk KX G hmg rfl ?aC ?_ ?_ ?_ ?_ ?_ ?_ ?_ ?_ ?_ ?_ ?_ ?_ ?_ ?_ ?_ ?_ ?_ ?_ ?_ ?_ ?_ ?_ ?a22 ?i22 ?l22 ?c22 ?k22 ?_ ?_ ?_ ?_ ?_ ?_ ?_ ?_ ?_ ?_ ?_ ?_ ?_ ?_ ?_ ?_ ?_ ?_ ?_ ?_ ?a43 ?i43 ?l43 ?c43 ?k43 ?_ ?_ ?_ ?_ ?_ ?_ ?_ ?_ ?_ ?_ ?_ ?_ ?_ ?_ ?_ ?_ ?_ ?_ ?a62 ?i62 ?l62 ?c62 ?k62 ?_ ?a64 ?i64 ?l64 ?c64 ?k64 ?_ ?_ ?_ ?_ ?_ ?_ ?_ ?_ ?_ ?_ ?_ ?_ ?_ ?_ ?_ ?_ ?ca0 ?cl0 ?ca1 ?cl1 ?ci0 ?ci1 ?ci2 ?pg ?hd ?po ?sa ?mk ?kc ?n_move ?n_states ?n_put ?n_ins ?n_look ?n_outs ?z_abs ?z_len ?z_min ?z_int ?z_range ?z_isinstance ?z_list ?z_bool ?z_tuple ?z_all ?z_enumerate ?z_max ?z_zip ?z_sum ?z_reversed
  all_goals try refine' Vd ?_ ?_ ?_ ?_
  all_goals try k_is