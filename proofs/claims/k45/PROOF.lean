import PyProof.Rows.All
import Wide.All
import OpenK.AllK
import Wide.FinOn
import Lean
import PyProof.EqAt
import PyProof.EqKinds
import PyProof.TupleCall
import PyProof.NeKinds
import PySem.Challenge.RW_helmsum_k45_soonest
set_option Elab.async false
set_option linter.all false
set_option maxRecDepth 100000
abbrev ae:=@List.getD_eq_getElem?_getD
abbrev af:=@List.getElem?_eq_getElem
abbrev ai:=@Nat.le_trans
abbrev ak:=@Nat.le_refl
abbrev ao:=@List.length_map
abbrev au:=@Nat.pow_le_pow_right
abbrev av:=@List.length_append
abbrev aw:=@List.mem_of_getElem?
abbrev ay:=@List.mem_append
abbrev aA:=@Nat.mul_le_mul_right
abbrev aB:=@List.getElem?_eq_some_iff
abbrev aD:=@List.mem_cons
abbrev aF:=@Nat.mul_le_mul_left
abbrev aG:=@List.take_of_length_le
abbrev aH:=@List.mem_map
abbrev aI:=@List.length_replicate
abbrev aJ:=@Nat.mul_le_mul
abbrev aL:=@List.size_toArray
abbrev aM:=@List.getElem?_map
abbrev aO:=@List.not_mem_nil
abbrev aP:=@PySem.boot_len
abbrev aR:=@List.getElem?_eq_none
abbrev aT:=@List.getElem_mem
abbrev aU:=@Rat.intCast_natCast
abbrev aW:=@Rat.intCast_mul
abbrev ba:=@List.getElem?_append_right
abbrev bc:=@Nat.le_of_lt
abbrev bg:=@Bool.false_ne_true
abbrev bo:=@Nat.pow_add
abbrev bx:=@Nat.zero_le
abbrev bA:=@List.getElem?_append_left
abbrev bB:=@List.length_singleton
abbrev bG:=@List.mem_append_right
abbrev bI:=@Nat.lt_of_lt_of_le
abbrev bJ:=@Nat.lt_of_le_of_lt
abbrev bN:=@List.mem_singleton
abbrev bQ:=@Int.eq_ofNat_of_zero_le
abbrev bR:=@List.length_cons
abbrev bU:=@Nat.mul_pos
abbrev bX:=@List.getElem_of_mem
abbrev b6:=@Nat.mul_comm
abbrev b8:=@List.mem_cons_of_mem
abbrev b9:=@List.getElem?_zipWith
abbrev cb:=@Nat.ne_of_lt
abbrev cg:=@Int.natAbs_natCast
abbrev ck:=@Option.some.inj
abbrev cm:=@List.mem_or_eq_of_mem_set
abbrev cy:=@Nat.mul_assoc
abbrev cA:=@List.mem_of_mem_take
abbrev cB:=@Int.fdiv_eq_ediv_of_nonneg
abbrev cE:=@List.length_range
abbrev cF:=@List.append_assoc
abbrev cI:=@Nat.le_mul_of_pos_left
abbrev cN:=@Nat.lt_or_ge
abbrev cS:=@List.map_append
abbrev cT:=@List.length_take
abbrev cX:=@List.length_zipWith
abbrev cY:=@List.nil_append
abbrev dc:=@PySem.F.plainAttrs_list
abbrev df:=@Nat.dvd_mul_left
abbrev dg:=@Int.natAbs_mul
abbrev dk:=@PySem.F.type_list_append
abbrev dm:=@PySem.F.slot_list_append
abbrev dn:=@Nat.mul_add
abbrev dA:=@Nat.le_mul_of_pos_right
abbrev dB:=@List.mem_replicate
abbrev dC:=@List.mem_cons_self
abbrev dG:=@PySem.W.kia_tup
abbrev dH:=@PySem.W.kia_one
abbrev dI:=@Nat.succ_mul
abbrev dJ:=@List.getElem?_range
abbrev dO:=@Nat.pow_pos
abbrev dP:=@List.nodup_append
abbrev dQ:=@Int.mul_assoc
abbrev dS:=@Rat.intCast_neg
abbrev dX:=@Rat.intCast_inj
abbrev dY:=@List.length_set
abbrev d6:=@Nat.succ_le_succ
abbrev d7:=@Nat.pow_lt_pow_right
abbrev d9:=@List.mem_append_left
abbrev ee:=@List.ext_getElem
abbrev eh:=@Bool.and_eq_true
abbrev eH:=@Nat.lt_irrefl
abbrev eK:=@Nat.pow_succ
abbrev eT:=@Rat.natCast_mul
abbrev eU:=@List.nodup_cons
abbrev eV:=@List.drop_eq_getElem_cons
abbrev fh:=@Nat.eq_zero_or_pos
abbrev fj:=@List.cons_append
abbrev fk:=@Int.gcd_dvd_left
abbrev fw:=@Rat.mul_comm
abbrev fG:=@List.getElem?_replicate
abbrev fH:=@Int.gcd_dvd_right
abbrev fI:=@Nat.not_lt_zero
abbrev fP:=@Nat.sub_self
abbrev fQ:=@Int.mul_comm
abbrev gD:=@Nat.dvd_trans
abbrev gO:=@Int.natAbs_dvd_natAbs
abbrev iu:=@List.flatten_cons
abbrev iw:=@List.ext_getElem?
abbrev iD:=@List.map_cons
abbrev iE:=@List.eq_of_mem_replicate
abbrev jo:=@Nat.pow_le_pow_left
abbrev jq:=@List.flatten_append
abbrev jt:=@Nat.lt_succ_self
abbrev ju:=@List.mem_flatten
abbrev jB:=@List.map_id
abbrev jG:=@Nat.one_le_two_pow
abbrev jH:=@Int.emod_lt_of_pos
abbrev jI:=@Bool.false_eq_true
abbrev ko:=@Nat.le_of_dvd
abbrev lh:=@Nat.lt_trichotomy
abbrev lC:=@List.getElem_zipWith
abbrev nv:=@Rat.zero_mul
abbrev nA:=@PySem.IsL.update
abbrev nB:=@List.lookup_cons
abbrev nC:=@Int.gcd_comm
abbrev nQ:=@PySem.F.plain_extend_loop
abbrev nR:=@PySem.mem_of_lookup
abbrev nU:=@List.replicate_succ
abbrev nV:=@List.length_reverse
abbrev oY:=@List.append_nil
abbrev oZ:=@Int.emod_nonneg
abbrev o5:=@Bool.eq_iff_iff
abbrev pS:=@Int.mul_pos
abbrev pT:=@Int.dvd_mul_of_dvd_left
abbrev rA:=@Rat.mul_zero
abbrev rB:=@List.nodup_nil
abbrev sJ:=@PySem.F.slot_zip_next
abbrev sL:=@List.all_eq_true
abbrev uK:=@Nat.one_mul
abbrev uL:=@Nat.le_succ
abbrev uM:=@List.replicate_succ'
abbrev uP:=@Nat.min_eq_left
abbrev xf:=@Rat.add_zero
abbrev xg:=@Nat.add_comm
abbrev xh:=@List.map_map
abbrev xM:=@PySem.W.kitx_tuple
abbrev xN:=@Int.natAbs_neg
abbrev xO:=@Int.eq_of_mul_eq_mul_right
abbrev zo:=@PySem.W.kitx_list
abbrev zv:=@PySem.W.kitx_dict
abbrev zx:=@Nat.pow_mul
abbrev zy:=@List.reverse_cons
abbrev zz:=@List.getElem?_take_of_lt
abbrev AG:=@Rat.intCast_eq_zero_iff
abbrev AH:=@Nat.min_le_right
abbrev AI:=@Nat.le_add_right
abbrev AJ:=@List.mem_reverse
abbrev AK:=@List.getElem_map
abbrev AL:=@Int.natCast_dvd_natCast
abbrev Bf:=@PySem.W.cellsFrom_some
abbrev Bg:=@Nat.mul_zero
abbrev Bh:=@Nat.dvd_refl
abbrev Bi:=@Int.zero_add
abbrev CD:=@Rat.mul_eq_zero
abbrev CG:=@Rat.intCast_add
abbrev CH:=@List.map_const'
abbrev CI:=@List.length_zip
abbrev CK:=@Nat.mul_dvd_mul_right
abbrev CL:=@Bool.beq_eq_decide_eq
abbrev D8:=@List.mem_range
abbrev D9:=@List.forIn_nil
abbrev Fs:=@PySem.W.plainGet_of
abbrev Fu:=@List.filterMap_cons
abbrev HB:=@PySem.W.callWith_K
abbrev HC:=@List.append_of_mem
abbrev JM:=@Nat.ne_of_gt
abbrev JN:=@Nat.min_self
abbrev JO:=@Nat.dvd_mul_right
abbrev KS:=@List.length_drop
abbrev MR:=@Rat.mul_one
abbrev MS:=@Nat.mul_one
abbrev MT:=@Nat.add_mul
abbrev MU:=@Int.dvd_gcd
abbrev MY:=@Nat.pow_dvd_pow
abbrev MZ:=@List.range_succ
abbrev M6:=@List.of_mem_zip
abbrev M7:=@List.forIn_cons
abbrev M8:=@Int.gcd_pos_of_ne_zero_right
abbrev QP:=@PySem.F.entry_extend_loop
abbrev QQ:=@List.getElem?_zip_eq_some
abbrev QR:=@Int.natAbs_ediv_of_nonneg
abbrev QZ:=@Option.isSome_iff_exists
abbrev Q0:=@List.all_cons
abbrev Q1:=@Int.natAbs_eq
abbrev Sm:=@PySem.F.args_zip_next_1
abbrev So:=@Nat.eq_zero_of_zero_dvd
abbrev Sq:=@Nat.add_sub_cancel_left
abbrev LR9:=List (List Rat)
abbrev FG9:=PySem.W.Frag
namespace L2
open PySem PySem.Spec PyProof.Rows
abbrev Key:=Sum Int Str
def OU:Key->Value->Bool
 | .inl k,v=>Value.isInt k v
 | .inr x,v=>Value.isStrOf x v
def SY (w:World):Key->Int
 | .inl k=>hashInt k
 | .inr x=>hashStr w x
theorem fD:∀{k:Key} {v:Value},OU k v=true->(∃i t,k=Sum.inl i/\v=Value.int i t)\/(∃x t,k=Sum.inr x/\v=Value.str x t)
 | .inl i,v,h=>by
  obtain ⟨t,e⟩:=Value.isInt_shape (k:=i) (v:=v) h;exact .inl ⟨i,t,rfl,e⟩
 | .inr x,v,h=>by
  obtain ⟨t,e⟩:=Value.isStrOf_shape (x:=x) (v:=v) h;exact .inr ⟨x,t,rfl,e⟩
theorem Qq (a b:Int):decide ((Sum.inl a:Key)=Sum.inl b)=(a == b):=by
 by_cases e:a=b
 ·subst e;simp
 ·have h:¬(Sum.inl a:Key)=Sum.inl b:=λq=>e (Sum.inl.inj q)
  rw[decide_eq_false h];exact (beq_eq_false_iff_ne.mpr e).symm
theorem Qn (a b:Str):decide ((Sum.inr a:Key)=Sum.inr b)=decide (a=b):=by
 by_cases e:a=b
 ·subst e;simp
 ·have h:¬(Sum.inr a:Key)=Sum.inr b:=λq=>e (Sum.inr.inj q)
  rw[decide_eq_false h,decide_eq_false e]
theorem Qp (a:Int) (b:Str):decide ((Sum.inl a:Key)=Sum.inr b)=false:=decide_eq_false (λq=>nomatch q)
theorem Qo (a:Str) (b:Int):decide ((Sum.inr a:Key)=Sum.inl b)=false:=decide_eq_false (λq=>nomatch q)
def Jj (prog:Program) (w:World):PySem.KeyKind prog w Key where
 is:=OU
 hash:=SY w
 inj:=λv a b ha hb=>by
  rcases fD ha with ⟨i,t,rfl,rfl⟩ | ⟨x,t,rfl,rfl⟩
  ·rcases fD hb with ⟨j,u,rfl,e⟩ | ⟨y,u,rfl,e⟩
   ·injection e with e1 _;rw[e1]
   ·exact nomatch e
  ·rcases fD hb with ⟨j,u,rfl,e⟩ | ⟨y,u,rfl,e⟩
   ·exact nomatch e
   ·injection e with e1 _;rw[e1]
 byValue:=λk v h=>by
  rcases fD h with ⟨i,t,rfl,rfl⟩ | ⟨x,t,rfl,rfl⟩ <;> rfl
 pyHash:=λhv h=>by
  rcases fD hv with ⟨i,t,rfl,rfl⟩ | ⟨x,t,rfl,rfl⟩
  ·exact wpAny_pyHash_int h
  ·exact wpAny_pyHash_str h
 eqBool:=λhu hv h=>by
  rcases fD hu with ⟨i,t,rfl,rfl⟩ | ⟨x,t,rfl,rfl⟩
  ·rcases fD hv with ⟨j,u,rfl,rfl⟩ | ⟨y,u,rfl,rfl⟩
   ·rw[Qq] at h;exact wpAny_eqBool_int h
   ·rw[Qp] at h;exact SeqAt.EqAt.int_str i t y u _ _ _ _ h
  ·rcases fD hv with ⟨j,u,rfl,rfl⟩ | ⟨y,u,rfl,rfl⟩
   ·rw[Qo] at h;exact SeqAt.EqAt.str_int x t j u _ _ _ _ h
   ·rw[Qn] at h;exact wpAny_eqBool_str h
 «strs»:=λk x t v h=>by
  rcases fD h with ⟨i,u,rfl,e⟩ | ⟨y,u,rfl,e⟩
  ·exact nomatch e
  ·injection e with e1 _
   subst e1;cases v <;> rfl
inductive V where
  | non | bl (b : Bool) | int (i : Int) | str (x : Str) | byt (b : Array UInt8) | flt (b : UInt64) | ref (a : Addr) | ty (n : String)
  deriving DecidableEq

def RelV:V->Value->Prop
 | .non,u=>u=Value.none
 | .bl b,u=>u=Value.bool b
 | .int i,u=>∃t,u=Value.int i t
 | .str x,u=>∃t,u=Value.str x t
 | .byt b,u=>∃t,u=Value.bytes b t
 | .flt b,u=>∃t,u=Value.float b t
 | .ref a,u=>u=Value.ref a
 | .ty n,u=>u=Value.type n
abbrev cU:List V->List Value->Prop:=Paired RelV
theorem cU.length {xs:List V} {us:List Value} (r:cU xs us):xs.length=us.length:=Paired.length r
theorem cU.get:∀{xs:List V} {us:List Value} {i:Nat} {x:V},cU xs us->xs[i]?=some x->∃u,us[i]?=some u/\RelV x u
 | _,_,_,_,.nil,e=>by simp at e
 | _,_,0,_,.cons r _,e=>by simp at e;subst e;exact ⟨_,rfl,r⟩
 | _,_,i+1,x,.cons _ t,e=>by
  obtain ⟨u,h1,h2⟩:=cU.get (i:=i) (x:=x) t (by simpa using e);exact ⟨u,by simpa using h1,h2⟩
theorem cU.set {x:V} {u:Value} (r:RelV x u):∀{xs:List V} {us:List Value} (i:Nat),cU xs us->cU (xs.set i x) (us.set i u)
 | _,_,_,.nil=>.nil
 | _,_,0,.cons _ t=>.cons r t
 | _,_,i+1,.cons q t=>.cons q (cU.set r i t)
theorem cU.append:∀{xs ys:List V} {us ws:List Value},cU xs us->cU ys ws->cU (xs++ys) (us++ws)
 | _,_,_,_,.nil,s=>s
 | _,_,_,_,.cons r t,s=>.cons r (cU.append t s)
theorem cU.take:∀{xs:List V} {us:List Value} (n:Nat),cU xs us->cU (xs.take n) (us.take n)
 | _,_,0,_=>.nil
 | _,_,_+1,.nil=>.nil
 | _,_,n+1,.cons r t=>.cons r (cU.take n t)
theorem cU.drop:∀{xs:List V} {us:List Value} (n:Nat),cU xs us->cU (xs.drop n) (us.drop n)
 | _,_,0,r=>r
 | _,_,_+1,.nil=>.nil
 | _,_,n+1,.cons _ t=>cU.drop n t
def De:Option V->Option Value->Prop
 | some v,some u=>RelV v u
 | none,none=>True
 | _,_=>False
def KV {κ:Type}:List (κ×V)->List (κ×Value)->Prop:=Paired λ(p:κ×V) (q:κ×Value)=>p.1=q.1/\RelV p.2 q.2
def kV:Key->V
 | .inl i=>.int i
 | .inr x=>.str x
inductive HO where
 | lst (xs:List V)
 | tup (xs:List V)
 | dK (kvs:List (Key×V)) | dT (kvs:List (List Key×V))
 | set (S:Int->Bool) (n:Nat)
 | ins (C dx:Addr) (fs:List (Str×V))
 | own (x:Addr)
 | xd (fs:List (Str×V))
 | met (f x:Addr)
 | rng (lo hi:Int)
 | frz (o:Obj) (u:HO)
 | tbl (ps:Array Value)
 | ext (φ:Heap->Prop)
abbrev Hp:=Addr->Option HO
def upd (H:Hp) (a:Addr) (o:HO):Hp:=λb=>if b=a then some o else H b
theorem aK {H:Hp} {a:Addr} {o:HO}:upd H a o a=some o:=by unfold upd;rw[if_pos rfl]
theorem bH {H:Hp} {a b:Addr} {o:HO} (h:b≠a):upd H a o b=H b:=by unfold upd;rw[if_neg h]
theorem fJ {H:Hp} {a b:Addr} {o:HO} (h:H a=some o) (h':H b=none):a≠b:=by
 intro e;subst e;rw[h] at h';cases h'
section
variable (P:Program) (w:World)
def fZ (H:Hp) (h:Heap) (a:Addr):HO->Prop
 | .lst xs=>xs.length<=sizeLine/\∃(its:List Value) (n:Nat),cU xs its/\h.get? a=some { cls:=.type "list",data:=.seq its.toArray n }
 | .tup xs=>xs.length<=sizeLine/\∃its:List Value,cU xs its/\IsTup h a its.toArray
 | .dK kvs=>kvs.length<=sizeLine/\(a == sysModules)=false/\∃vs,KV kvs vs/\h.DictOf (Jj P w) a vs
 | .dT kvs=>kvs.length<=sizeLine/\(a == sysModules)=false/\∃xs:List (List Key×Addr×Value),
   Paired (λ(p:List Key×V) (q:List Key×Addr×Value)=>p.1=q.1/\H q.2.1=some (.tup (p.1.map kV))/\RelV p.2 q.2.2) kvs xs /\
   ∃o es ep,h.get? a=some o/\o.ExactDict/\o.data=.dict es ep/\es.toList=xs.map (entryOfKey (tupleKind (Jj P w)))/\(xs.map (·.1)).Nodup
 | .set S n=>h.SetOf (intKind P w) a S n
 | .ins C dx fs=>H dx=some (.own a)/\fs.length<=1000/\dx≠a/\h.get? a=some (PySem.W.instObj C dx) /\
   ∃mA,h.Ns1 dx mA/\(∀f,De (fs.lookup f) (mA f))/\PySem.Within mA (fs.map (·.1))
 | .own _=>∃o,h.get? a=some o
 | .xd fs=>∃mA,h.Ns1 a mA/\∀f,De (fs.lookup f) (mA f)
 | .rng lo hi=>∃t u v,h.get? a=some { cls:=.type "range",data:=.fields #[.int lo t,.int hi u,.int 1 v] }
 | .frz o u=>h.get? a=some o/\fZ H h a u
 | .tbl ps=>h.get? a=some { cls:=.none,data:=.fields ps }
 | .met f x=>h.get? a=some (PySem.W.methodObj (.ref f) (.ref x))
 | .ext φ=>φ h/\(∃o,h.get? a=some o)/\∀h1 h2:Heap,φ h1->(∀o,h1.get? a=some o->h2.get? a=some o)->φ h2
def Bc (H:Hp) (h:Heap):Prop:=∀a o,H a=some o->fZ P w H h a o
end
section
variable {P:Program} {w:World} {H H':Hp} {h h':Heap} {a:Addr} {o:HO}
theorem fZ.lt (x:fZ P w H h a o):a < h.objs.size:=by
 cases o with
 | lst xs=>obtain ⟨_,_,_,_,e⟩:=x;exact Heap.lt_size e
 | tup xs=>obtain ⟨_,_,_,p⟩:=x;exact p.lt
 | dK kvs=>obtain ⟨_,_,_,_,o,_,_,e,_⟩:=x;exact Heap.lt_size e
 | dT kvs=>obtain ⟨_,_,_,_,o,_,_,e,_⟩:=x;exact Heap.lt_size e
 | set S n=>obtain ⟨o,_,_,_,e,_⟩:=x;exact Heap.lt_size e
 | ins C dx fs=>obtain ⟨_,_,_,e,_⟩:=x;exact Heap.lt_size e
 | own y=>obtain ⟨_,e⟩:=x;exact Heap.lt_size e
 | xd fs=>obtain ⟨_,⟨_,_,_,e,_⟩,_⟩:=x;exact Heap.lt_size e
 | rng lo hi=>obtain ⟨_,_,_,e⟩:=x;exact Heap.lt_size e
 | frz ob u=>obtain ⟨e,_⟩:=x;exact Heap.lt_size e
 | tbl ps=>exact Heap.lt_size (show h.get? a=some _ from x)
 | met f y=>exact Heap.lt_size (show h.get? a=some _ from x)
 | ext φ=>obtain ⟨_,⟨_,e⟩,_⟩:=x;exact Heap.lt_size e
theorem Paired.mapP {α β:Type} {F G:α->β->Prop}:∀{l₁:List α} {l₂:List β},Paired F l₁ l₂->(∀a b,F a b->G a b)->Paired G l₁ l₂
 | _,_,.nil,_=>.nil
 | _,_,.cons r t,f=>.cons (f _ _ r) (Paired.mapP t f)
theorem Paired.imp' {α β:Type} {F G:α->β->Prop} (f:∀a b,F a b->G a b) {l₁:List α} {l₂:List β} (r:Paired F l₁ l₂):Paired G l₁ l₂:=Paired.mapP r f
theorem fZ.stay (x:fZ P w H h a o) (k:∀b u,(b=a\/H b=some (.own a))->h.get? b=some u->h'.get? b=some u)
  (ho:∀b,H b=some (.own a)->H' b=some (.own a)) (ht:∀b xs,H b=some (.tup xs)->H' b=some (.tup xs)):fZ P w H' h' a o:=by
 induction o with
 | lst xs=>obtain ⟨z,its,n,r,e⟩:=x;exact ⟨z,its,n,r,k _ _ (.inl rfl) e⟩
 | tup xs=>obtain ⟨z,its,r,ob,e,c⟩:=x;exact ⟨z,its,r,ob,k _ _ (.inl rfl) e,c⟩
 | dK kvs=>obtain ⟨z,y,vs,r,ob,es,ep,e,c⟩:=x;exact ⟨z,y,vs,r,ob,es,ep,k _ _ (.inl rfl) e,c⟩
 | dT kvs =>
  obtain ⟨z,y,xs,r,ob,es,ep,e,c⟩:=x;exact ⟨z,y,xs,Paired.mapP r λp q z=>⟨z.1,ht _ _ z.2.1,z.2.2⟩,ob,es,ep,k _ _ (.inl rfl) e,c⟩
 | set S n=>obtain ⟨ob,es,ep,t,e,c⟩:=x;exact ⟨ob,es,ep,t,k _ _ (.inl rfl) e,c⟩
 | ins C dx fs =>
  obtain ⟨d,z,ne,e,mA,⟨od,es,ep,e2,c⟩,r⟩:=x;exact ⟨ho _ d,z,ne,k _ _ (.inl rfl) e,mA,⟨od,es,ep,k _ _ (.inr d) e2,c⟩,r⟩
 | own y=>obtain ⟨ob,e⟩:=x;exact ⟨ob,k _ _ (.inl rfl) e⟩
 | xd fs=>obtain ⟨mA,⟨od,es,ep,e,c⟩,r⟩:=x;exact ⟨mA,⟨od,es,ep,k _ _ (.inl rfl) e,c⟩,r⟩
 | rng lo hi=>obtain ⟨t,u,v,e⟩:=x;exact ⟨t,u,v,k _ _ (.inl rfl) e⟩
 | frz ob u ih=>obtain ⟨e,q⟩:=x;exact ⟨k _ _ (.inl rfl) e,ih q⟩
 | tbl ps =>
  have e:h.get? a=some { cls:=.none,data:=.fields ps }:=x;show h'.get? a=some { cls:=.none,data:=.fields ps }
  exact k a _ (.inl rfl) e
 | met f y =>
  have e:h.get? a=some (PySem.W.methodObj (.ref f) (.ref y)):=x;show h'.get? a=some (PySem.W.methodObj (.ref f) (.ref y))
  exact k a _ (.inl rfl) e
 | ext φ=>obtain ⟨p,⟨o,e⟩,st⟩:=x;exact ⟨st _ _ p λo q=>k _ _ (.inl rfl) q,⟨o,k _ _ (.inl rfl) e⟩,st⟩
theorem Bc.lt (x:Bc P w H h) (e:H a=some o):a < h.objs.size:=(x a o e).lt
theorem Bc.fresh (x:Bc P w H h) (e:h.objs.size<=a):H a=none:=by
 cases q:H a with
 | none=>rfl
 | some u=>exact absurd (bI (x.lt q) e) (eH _)
theorem Bc.kept (x:Bc P w H h) (k:∀b u,h.get? b=some u->h'.get? b=some u):Bc P w H h':=λa o e =>
 (x a o e).stay (λb u _ q=>k b u q) (λ_ q=>q) λ_ _ q=>q
theorem Bc.laid (x:Bc P w H h) (k:∀b u,h.get? b=some u->h'.get? b=some u) (hp:h.objs.size<=a) (new:fZ P w (upd H a o) h' a o):Bc P w (upd H a o) h':=λb u e=>by
 have hn:=x.fresh hp;by_cases hb:b=a
 ·subst hb;rw[aK] at e;cases e;exact new
 ·rw[bH hb] at e;exact (x b u e).stay (λc v _ q=>k c v q) (λc q=>by rw[bH (fJ q hn)];exact q) λc xs q=>by rw[bH (fJ q hn)];exact q
end
def Rd (H:Hp) (a:Addr) (u:HO):Prop:=H a=some u\/∃o,H a=some (.frz o u)
theorem Rd.ok {P:Program} {w:World} {H:Hp} {h:Heap} {a:Addr} {u:HO} (r:Rd H a u) (x:Bc P w H h):fZ P w H h a u:=by
 rcases r with r | ⟨o,r⟩
 ·exact x a u r
 ·obtain ⟨_,q⟩:=x a _ r;exact q
def SE:Option HO->Prop
 | some (.lst _)=>True
 | some (.dK _)=>True
 | some (.dT _)=>True
 | some (.set _ _)=>True
 | some (.ins _ _ _)=>True
 | some (.ext _)=>True
 | _=>False
section
variable {P:Program} {w:World} {H:Hp} {h h':Heap} {x e:Addr} {o':HO}
theorem Bc.write (ok:Bc P w H h) (mu:SE (H x)) (he:e=x\/H e=some (.own x)) (k:∀b u,b≠e->h.get? b=some u->h'.get? b=some u) (heo:∃u,h'.get? e=some u)
  (new:fZ P w (upd H x o') h' x o'):Bc P w (upd H x o') h':=λb u q=>by
 have nown:∀c y,H c=some (.own y)->c≠x:=λc y r z=>by subst z;rw[r] at mu;exact mu
 have ntup:∀c xs,H c=some (.tup xs)->c≠x:=λc xs r z=>by subst z;rw[r] at mu;exact mu
 by_cases hb:b=x
 ·subst hb;rw[aK] at q;cases q;exact new
 ·rw[bH hb] at q;by_cases hbe:b=e
  ·have q':H b=some (.own x):=by
    rcases he with z | z
    ·exact absurd (hbe.trans z) hb
    ·rw[hbe];exact z
   rw[q] at q';cases q';obtain ⟨v,hv⟩:=heo;exact ⟨v,by rw[hbe];exact hv⟩
  ·refine (ok b u q).stay (λc v hc r=>k c v ?_ r) (λc r=>by rw[bH (nown c b r)];exact r) λc xs r=>by rw[bH (ntup c xs r)];exact r
   rcases hc with rfl | hc
   ·exact hbe
   ·rintro rfl;rcases he with z | z
    ·exact nown c b hc z
    ·rw[hc] at z;cases z;exact hb rfl
end
structure Un (fs ex:List Addr) (H H':Hp) (h h':Heap):Prop where
 keep:∀b o,h.get? b=some o->H b=none->b∉fs->b∉ex->h'.get? b=some o
 slot:∀b o,h.get? b=some o->H b=none->b∈fs->b∉ex->∃sl,h'.get? b=some { o with slots:=sl }
 free:∀b o,h.get? b=some o->H b=none->b∉ex->H' b=none
 there:∀b o,h.get? b=some o->b∉ex->∃o',h'.get? b=some o'
 tups:∀b xs,H b=some (.tup xs)->H' b=some (.tup xs)
 frzs:∀b o u,H b=some (.frz o u)->H' b=some (.frz o u)
 tbls:∀b ps,H b=some (.tbl ps)->∃more,H' b=some (.tbl (ps++more))
section
variable {fs fs' ex ex':List Addr} {H H1 H2:Hp} {h h1 h2 h':Heap} {a x e:Addr} {o:HO}
theorem Un.any (u:Un fs ex H H1 h h1) {b:Addr} {ob:Obj} (q:h.get? b=some ob) (n:H b=none) (hx:b∉ex):∃sl,h1.get? b=some { ob with slots:=sl }:=by
 by_cases hb:b∈fs
 ·exact u.slot b ob q n hb hx
 ·exact ⟨ob.slots,u.keep b ob q n hb hx⟩
theorem Un.kept (k:∀b u,h.get? b=some u->h'.get? b=some u):Un fs ex H H h h' :=
 ⟨λb ob q _ _ _=>k b ob q,λb ob q _ _ _=>⟨ob.slots,k b ob q⟩,λ_ _ _ n _=>n,λb ob q _=>⟨ob,k b ob q⟩,λ_ _ q=>q,λ_ _ _ q=>q,λ_ ps q=>⟨#[],by rw[q];simp⟩⟩
theorem Un.refl:Un fs ex H H h h:=Un.kept λ_ _ q=>q
theorem Un.laid (k:∀b u,h.get? b=some u->h'.get? b=some u) (hp:h.objs.size<=a) (hn:H a=none):Un fs ex H (upd H a o) h h' where
 keep:=λb u q _ _ _=>k b u q
 slot:=λb u q _ _ _=>⟨u.slots,k b u q⟩
 free:=λb u q n _=>by rw[bH (cb (bI (Heap.lt_size q) hp))];exact n
 there:=λb u q _=>⟨u,k b u q⟩
 tups:=λb xs q=>by rw[bH (fJ q hn)];exact q
 frzs:=λb u xs q=>by rw[bH (fJ q hn)];exact q
 tbls:=λb ps q=>⟨#[],by rw[bH (fJ q hn),q];simp⟩
theorem Un.write (mu:SE (H x)) (he:e=x\/H e=some (.own x)) (k:∀b u,b≠e->h.get? b=some u->h'.get? b=some u) (heo:∃u,h'.get? e=some u):Un fs ex H (upd H x o) h h':=by
 have hx:∀b,H b=none->b≠x:=λb n z=>by subst z;rw[n] at mu;exact mu
 have hb:∀b,H b=none->b≠e:=λb n z=>by
  subst z;rcases he with r | r
  ·exact hx b n r
  ·rw[n] at r;cases r
 have hm:∀b u,H b=some u->¬SE (some u)->b≠x:=λb u q nm z=>by subst z;rw[q] at mu;exact nm mu
 refine ⟨λb u q n _ _=>k b u (hb b n) q,λb u q n _ _=>⟨u.slots,k b u (hb b n) q⟩,λb u q n _=>by rw[bH (hx b n)];exact n,λb u q _=>?_,
  λb xs q=>by rw[bH (hm b _ q λz=>z)];exact q,λb u xs q=>by rw[bH (hm b _ q λz=>z)];exact q,λb ps q=>⟨#[],by rw[bH (hm b _ q λz=>z),q];simp⟩⟩
 by_cases hbe:b=e
 ·subst hbe;exact heo
 ·exact ⟨u,k b u hbe q⟩
end
def Ss (h:Heap) (H:Hp):List Addr:=(List.range h.objs.size).filter λa=>(H a).isSome
def EU (h:Heap) (H:Hp):Heap:=PySem.W.hideAll h (Ss h H)
theorem Kx (h:Heap) (H:Hp):(EU h H).objs.size=h.objs.size:=PySem.W.hideAll_size _ _
theorem Me {h:Heap} {H:Hp} {b:Addr} {o:Obj} (e:h.get? b=some o) (n:H b=none):(EU h H).get? b=some o :=
 PySem.W.hideAll_get _ e λhm=>by
  have q:(H b).isSome=true:=(List.mem_filter.mp hm).2;rw[n] at q;simp at q
theorem Of {h:Heap} {H:Hp} {b:Addr} {o:Obj} (e:(EU h H).get? b=some o):h.get? b=some o/\H b=none:=by
 have e':h.get? b=some o:=PySem.W.of_hideAll (Ss h H) e;refine ⟨e',?_⟩;cases q:H b with
 | none=>rfl
 | some x =>
  have hm:b∈Ss h H:=List.mem_filter.mpr ⟨D8.mpr (Heap.lt_size e'),by simp [q]⟩;have z:(EU h H).get? b=none:=PySem.W.hideAll_none (Ss h H) hm;rw[z] at e;cases e
structure Mod (K:FG9) (mg:Str->Option Value) (base:Heap):Prop where
 kin:K.In base
 glob:base.Ns mainGlobals mg
 blt:∃mb,base.Ns builtinsNs mb/\∀x:Str,x≠"__name__"->mb x=bootBuiltins x
 nolimit:base.NoLimit
structure Cx where
 prog:Program
 w:World
 K:FG9
 mg:Str->Option Value
 base:Heap
 A:Around
 N:List Str
 s₀:Shared
 H₀:Hp
 env:Env
 outer:List Env
 stack:List Env
 ex:List Addr
 fn:Str->Bool
 calm:Bool
 pn:List (Addr×Obj)
 xe:Value->Shared->Prop
def KP (l:List Env):List Addr:=l.filterMap (·.frame)
abbrev Cx.fs (X:Cx):List Addr:=KP X.outer
def S6 (sc:Scope) (x:Str):Prop:=sc.names.lookup x=some .local\/sc.names.lookup x=some .cell\/sc.names.lookup x=some .free
def Loc (sc:Scope) (x:Str):Prop:=sc.names.lookup x=some .local\/sc.names.lookup x=some .cell
def Look (env:Env) (h:Heap) (m:Str->Option Value) (x:Str) (u:Value):Prop :=
 (env.kindOf x=some .local/\m x=some u)\/((env.kindOf x=some .cell\/env.kindOf x=some .free)/\∃c,env.cells.lookup x=some c/\h.IsCell c (some u))
structure Cx.Ok (X:Cx):Prop where
 mod:Mod X.K X.mg X.base
 kind:X.env.scope.kind=.function
 glob:X.env.globals=mainGlobals
 blt:X.env.builtins=builtinsNs
 above:X.s₀.heap.objs.size<=X.env.locals
 inj:∀x y c,X.env.cells.lookup x=some c->X.env.cells.lookup y=some c->x=y
 has:∀x,(X.env.kindOf x=some .cell\/X.env.kindOf x=some .free)->∃c,X.env.cells.lookup x=some c
 cab:∀x c,X.fn x=true->X.env.cells.lookup x=some c->X.s₀.heap.objs.size<=c
 hd:X.calm=true->X.A.handled=none
 frames:X.A.frames=some X.stack
 stk:X.stack=X.outer\/(X.stack=X.env :: X.outer/\X.env.frame=some X.env.locals)
 exf:∀b∈X.ex,b≠X.env.locals/\∀x c,X.env.cells.lookup x=some c->c≠b
 bs:∀b o,X.base.get? b=some o->X.s₀.heap.get? b=some o/\X.H₀ b=none
 bsz:X.base.objs.size<=X.s₀.heap.objs.size
 noex:∀b o,X.base.get? b=some o->b∉X.ex
 exfs:∀b∈X.ex,b∉X.fs
 funs:X.s₀.heap.FunFrames X.base X.outer
 frf:∀b∈X.fs,X.H₀ b=none
structure Inv (X:Cx) (pins:List (Addr×Obj)) (σ:List (Option V)) (H:Hp) (s:Shared):Prop where
 ok:X.Ok
 os:s.os=X.s₀.os
 bare:AllBare s.gens
 base:Un X.fs X.ex X.H₀ H X.s₀.heap s.heap
 loc:∃m,s.heap.Ns X.env.locals m/\∀(i:Nat) (x:Str) (v:V),X.N[i]?=some x->σ[i]?=some (some v)->S6 X.env.scope x->∃u,RelV v u/\Look X.env s.heap m x u
 cell:∀x c,X.env.cells.lookup x=some c->∃v,s.heap.IsCell c v
 free:H X.env.locals=none
 freeC:∀x c,X.env.cells.lookup x=some c->H c=none
 pin:∀p∈X.pn++pins,s.heap.get? p.1=some p.2/\H p.1=none/\p.1≠X.env.locals/\p.1∉X.fs/\∀v,p.2.data≠.cell v
 hok:Bc X.prog X.w H s.heap
 len:σ.length=X.N.length
section
variable {X:Cx} {pins:List (Addr×Obj)} {σ:List (Option V)} {H H':Hp} {s:Shared} {h':Heap}
theorem Cx.Ok.nofr (ok:X.Ok) {b:Addr} {o:Obj} (e:X.base.get? b=some o):b∉X.fs:=λhb=>by
 have:=(ok.funs.mem hb).1;rw[e] at this;cases this
theorem Inv.bs (I:Inv X pins σ H s):∀b o,X.base.get? b=some o->s.heap.get? b=some o/\H b=none:=λb o e =>
 ⟨I.base.keep b o (I.ok.bs b o e).1 (I.ok.bs b o e).2 (I.ok.nofr e) (I.ok.noex b o e),I.base.free b o (I.ok.bs b o e).1 (I.ok.bs b o e).2 (I.ok.noex b o e)⟩
theorem Inv.bk (I:Inv X pins σ H s):∀b o,X.base.get? b=some o->s.heap.get? b=some o:=λb o e=>(I.bs b o e).1
theorem Inv.mod (I:Inv X pins σ H s):Mod X.K X.mg X.base:=I.ok.mod
theorem Inv.kIn (I:Inv X pins σ H s):X.K.In s.heap:=I.ok.mod.kin.keeps I.bk
theorem Inv.lt (I:Inv X pins σ H s):X.env.locals < s.heap.objs.size:=let ⟨_,hn,_⟩:=I.loc;hn.lt
theorem Inv.sz (I:Inv X pins σ H s):X.s₀.heap.objs.size<=s.heap.objs.size:=ai I.ok.above (bc I.lt)
theorem Inv.nofs (I:Inv X pins σ H s) {a:Addr} (h:s.heap.objs.size<=a):a∉X.fs:=λhb=>by
 obtain ⟨_,o,ho,_⟩:=I.ok.funs.mem hb;exact absurd (bI (Heap.lt_size ho) (ai I.sz h)) (eH _)
theorem Inv.cne (I:Inv X pins σ H s):∀x c,X.env.cells.lookup x=some c->c≠X.env.locals:=λx c e z=>by
 obtain ⟨v,o,ho,hd⟩:=I.cell x c e;obtain ⟨m,⟨o',es,ep,ho',hd',_⟩,_⟩:=I.loc;rw[z,ho'] at ho;cases ho;rw[hd'] at hd;cases hd
theorem Inv.funs (I:Inv X pins σ H s):s.heap.FunFrames X.base X.outer:=by
 have all:∀(l:List Env),(∀b∈KP l,b∈X.fs)->X.s₀.heap.FunFrames X.base l->s.heap.FunFrames X.base l:=by
  intro l
  induction l with
  | nil=>intro _ _;trivial
  | cons env r ih =>
   intro hs hl;obtain ⟨hk,⟨L,o,hf,hn,ho,hd⟩,hr⟩:=hl;have hL:L∈X.fs:=hs L (by unfold KP;rw[Fu,hf];exact dC);obtain ⟨sl,e⟩:=I.base.slot L o ho (I.ok.frf L hL) hL λz=>I.ok.exfs L z hL
   exact ⟨hk,⟨L,_,hf,hn,e,hd⟩,ih (λb hb=>hs b (by unfold KP;rw[Fu,hf];exact b8 _ hb)) hr⟩
 exact all X.outer (λ_ hb=>hb) I.ok.funs
theorem Inv.stack (I:Inv X pins σ H s):s.heap.FunFrames X.base X.stack:=by
 rcases I.ok.stk with e | ⟨e,hf⟩
 ·rw[e];exact I.funs
 ·rw[e];obtain ⟨m,hn,_⟩:=I.loc;refine .cons (by rw[I.ok.kind];decide) hf hn ?_ I.funs;exact Heap.get?_none_of_le (ai I.ok.bsz I.ok.above)
theorem Inv.stkSub (I:Inv X pins σ H s):∀b∈KP X.stack,b∈X.env.locals :: X.fs:=λb hb=>by
 rcases I.ok.stk with e | ⟨e,hf⟩
 ·rw[e] at hb;exact b8 _ hb
 ·rw[e] at hb;unfold KP at hb;rw[Fu,hf] at hb;exact hb
theorem Inv.stkFree (I:Inv X pins σ H s):∀b∈KP X.stack,H b=none:=λb hb=>by
 rcases aD.mp (I.stkSub b hb) with e | hb
 ·rw[e];exact I.free
 ·obtain ⟨_,o,ho,_⟩:=I.ok.funs.mem hb;exact I.base.free b o ho (I.ok.frf b hb) λz=>I.ok.exfs b z hb
theorem Inv.step {g':Array GenState} {t':Nat} {d':Drawn} {ch:List Addr} (I:Inv X pins σ H s)
  (hch:∀b∈ch,(b∈X.ex\/X.s₀.heap.objs.size<=b)/\b≠X.env.locals/\(∀x c,X.env.cells.lookup x=some c->c≠b)/\∀p∈X.pn++pins,p.1≠b)
  (keep:∀b o,b≠X.env.locals->b∉X.fs->b∉ch->s.heap.get? b=some o->H b=none->h'.get? b=some o)
  (slot:∀b o,b≠X.env.locals->b∈X.fs->b∉ch->s.heap.get? b=some o->H b=none->∃sl,h'.get? b=some { o with slots:=sl }) (free:∀b o,b∉ch->s.heap.get? b=some o->H b=none->H' b=none)
  (there:∀b o,b∉ch->s.heap.get? b=some o->∃o',h'.get? b=some o')
  (tups:∀b xs,H b=some (.tup xs)->H' b=some (.tup xs)) (frzs:∀b o u,H b=some (.frz o u)->H' b=some (.frz o u)) (tbls:∀b ps,H b=some (.tbl ps)->∃more,H' b=some (.tbl (ps++more)))
  (ns:∀m,s.heap.Ns X.env.locals m->h'.Ns X.env.locals m) (hok:Bc X.prog X.w H' h') (hg:AllBare g') :
  Inv X pins σ H' { s with heap:=h',gens:=g',drawn:=d',toks:=t' }:=by
 have neL:∀b o,X.s₀.heap.get? b=some o->b≠X.env.locals:=λb o e=>cb (bI (Heap.lt_size e) I.ok.above)
 have neC:∀b o,X.s₀.heap.get? b=some o->b∉X.ex->b∉ch:=λb o e hx hb=>by
  rcases (hch b hb).1 with z | z
  ·exact hx z
  ·exact absurd (bI (Heap.lt_size e) z) (eH _)
 have cellK:∀x c,X.env.cells.lookup x=some c->∀v,s.heap.IsCell c v->h'.IsCell c v:=λx c e v ⟨o,ho,hd⟩=>by
  have nch:c∉ch:=λz=>(hch c z).2.2.1 x c e rfl
  by_cases hc:c∈X.fs
  ·obtain ⟨sl,q⟩:=slot c o (I.cne x c e) hc nch ho (I.freeC x c e);exact ⟨_,q,hd⟩
  ·exact ⟨o,keep c o (I.cne x c e) hc nch ho (I.freeC x c e),hd⟩
 refine ⟨I.ok,I.os,hg,⟨λb o e n hb hx=>?_,λb o e n hb hx=>?_,λb o e n hx=>?_,λb o e hx=>?_,λb xs e=>tups b xs (I.base.tups b xs e),λb o xs e=>frzs b o xs (I.base.frzs b o xs e),λb ps e=>?_⟩,?_,λx c e=>?_,?_,λx c e=>?_,λp hp=>?_,hok,I.len⟩
 ·exact keep b o (neL b o e) hb (neC b o e hx) (I.base.keep b o e n hb hx) (I.base.free b o e n hx)
 ·obtain ⟨sl,e1⟩:=I.base.slot b o e n hb hx;obtain ⟨sl',e2⟩:=slot b _ (neL b o e) hb (neC b o e hx) e1 (I.base.free b o e n hx);exact ⟨sl',e2⟩
 ·obtain ⟨o',e1⟩:=I.base.there b o e hx;exact free b o' (neC b o e hx) e1 (I.base.free b o e n hx)
 ·obtain ⟨o',e1⟩:=I.base.there b o e hx;exact there b o' (neC b o e hx) e1
 ·obtain ⟨m1,e1⟩:=I.base.tbls b ps e;obtain ⟨m2,e2⟩:=tbls b _ e1;exact ⟨m1++m2,by rw[e2,Array.append_assoc]⟩
 ·obtain ⟨m,hn,hl⟩:=I.loc;refine ⟨m,ns m hn,λi x v e1 e2 e3=>?_⟩;obtain ⟨u,r,l⟩:=hl i x v e1 e2 e3;refine ⟨u,r,?_⟩;rcases l with l | ⟨k,c,e,z⟩
  ·exact .inl l
  ·exact .inr ⟨k,c,e,cellK x c e _ z⟩
 ·obtain ⟨v,z⟩:=I.cell x c e;exact ⟨v,cellK x c e v z⟩
 ·obtain ⟨m,⟨o,_,_,ho,_⟩,_⟩:=I.loc;exact free _ o (λz=>(hch _ z).2.1 rfl) ho I.free
 ·obtain ⟨v,o,ho,hd⟩:=I.cell x c e;exact free c o (λz=>(hch c z).2.2.1 x c e rfl) ho (I.freeC x c e)
 ·obtain ⟨e,n,ne,nf,d⟩:=I.pin p hp;have nch:p.1∉ch:=λz=>(hch p.1 z).2.2.2 p hp rfl
  exact ⟨keep p.1 p.2 ne nf nch e n,free p.1 p.2 nch e n,ne,nf,d⟩
theorem Inv.un {t':Nat} (I:Inv X pins σ H s) (u:Un X.fs [] H H' s.heap h') (hok:Bc X.prog X.w H' h'):Inv X pins σ H' { s with heap:=h',toks:=t' }:=by
 obtain ⟨m,⟨o,es,ep,ho,r⟩,_⟩:=id I.loc;obtain ⟨sl,hL⟩:=u.any ho I.free (by simp)
 exact I.step (g':=s.gens) (d':=s.drawn) (ch:=[]) (λ_ z=>nomatch z) (λb o _ hb _ e n=>u.keep b o e n hb (by simp)) (λb o _ hb _ e n=>u.slot b o e n hb (by simp)) (λb o _ e n=>u.free b o e n (by simp)) (λb o _ e=>u.there b o e (by simp)) u.tups u.frzs u.tbls (λm' hm=>by
  obtain ⟨o',es',ep',ho',r'⟩:=hm;rw[ho] at ho';cases ho';exact ⟨_,es',ep',hL,r'⟩) hok I.bare
theorem Inv.call {g':Array GenState} {t':Nat} {d':Drawn} {ch:List Addr} (I:Inv X pins σ H s) (u:Un (KP X.stack) ch H H' s.heap h') (hok:Bc X.prog X.w H' h') (hg:AllBare g')
  (hch:∀b∈ch,(b∈X.ex\/X.s₀.heap.objs.size<=b)/\b≠X.env.locals/\(∀x c,X.env.cells.lookup x=some c->c≠b)/\∀p∈X.pn++pins,p.1≠b) :
  Inv X pins σ H' { s with heap:=h',gens:=g',drawn:=d',toks:=t' }:=by
 obtain ⟨m,⟨o,es,ep,ho,r⟩,_⟩:=id I.loc;obtain ⟨sl,hL⟩:=u.any ho I.free λz=>(hch _ z).2.1 rfl
 exact I.step (ch:=ch) hch (λb o hL hb hc e n=>u.keep b o e n (λz=>(aD.mp (I.stkSub b z)).elim hL hb) hc) (λb o _ _ hc e n=>u.any e n hc) (λb o hc e n=>u.free b o e n hc) (λb o hc e=>u.there b o e hc) u.tups u.frzs u.tbls (λm' hm=>by
  obtain ⟨o',es',ep',ho',r'⟩:=hm;rw[ho] at ho';cases ho';exact ⟨_,es',ep',hL,r'⟩) hok hg
theorem Inv.turned {t':Nat} {it:Addr} (I:Inv X pins σ H s) (k:∀b o,b≠it->s.heap.get? b=some o->h'.get? b=some o) (hn:H it=none) (hL:it≠X.env.locals)
  (h1:it∈X.ex\/X.s₀.heap.objs.size<=it) (h2:∀x c,X.env.cells.lookup x=some c->c≠it) (h3:∀p∈X.pn++pins,p.1≠it):Inv X pins σ H { s with heap:=h',toks:=t' }:=by
 have nit:∀b u,H b=some u->b≠it:=λb u e z=>by rw[z,hn] at e;cases e
 refine I.step (g':=s.gens) (d':=s.drawn) (ch:=[it]) (λb hb=>?_) (λb o _ _ hc e _=>k b o (λz=>hc (by simp [z])) e) (λb o _ _ hc e _=>⟨o.slots,k b o (λz=>hc (by simp [z])) e⟩) (λ_ _ _ _ n=>n)
  (λb o hc e=>⟨o,k b o (λz=>hc (by simp [z])) e⟩) (λ_ _ e=>e) (λ_ _ _ e=>e) (λb ps e=>⟨#[],by rw[e];simp⟩) (λm hm=>?_) (λb u e=>?_) I.bare
 ·have e:b=it:=by simpa using hb
  subst e;exact ⟨h1,hL,h2,h3⟩
 ·obtain ⟨o,es,ep,ho,r⟩:=hm;exact ⟨o,es,ep,k _ o (Ne.symm hL) ho,r⟩
 ·refine (I.hok b u e).stay (λc v hc q=>k c v ?_ q) (λ_ q=>q) λ_ _ q=>q
  rcases hc with z | z
  ·rw[z];exact nit b u e
  ·exact nit c _ z
theorem Inv.tok (I:Inv X pins σ H s) (t:Nat):Inv X pins σ H { s with toks:=t }:=I.un (h':=s.heap) (t':=t) Un.refl I.hok
theorem Inv.kept {t':Nat} (I:Inv X pins σ H s) (k:∀b u,s.heap.get? b=some u->h'.get? b=some u):Inv X pins σ H { s with heap:=h',toks:=t' }:=I.un (Un.kept k) (I.hok.kept k)
theorem Inv.laid {a:Addr} {o:HO} {t':Nat} (I:Inv X pins σ H s) (k:∀b u,s.heap.get? b=some u->h'.get? b=some u) (hp:s.heap.objs.size<=a) (new:fZ X.prog X.w (upd H a o) h' a o) :
  Inv X pins σ (upd H a o) { s with heap:=h',toks:=t' }:=I.un (Un.laid k hp (I.hok.fresh hp)) (I.hok.laid k hp new)
theorem Inv.write {x e:Addr} {o:HO} {t':Nat} (I:Inv X pins σ H s) (mu:SE (H x)) (he:e=x\/H e=some (.own x)) (k:∀b u,b≠e->s.heap.get? b=some u->h'.get? b=some u) (heo:∃u,h'.get? e=some u)
  (new:fZ X.prog X.w (upd H x o) h' x o):Inv X pins σ (upd H x o) { s with heap:=h',toks:=t' }:=I.un (Un.write mu he k heo) (I.hok.write mu he k heo new)
theorem Inv.pins_of {pins':List (Addr×Obj)} (I:Inv X pins σ H s) (h:∀p∈pins',s.heap.get? p.1=some p.2/\H p.1=none/\p.1≠X.env.locals/\p.1∉X.fs/\∀v,p.2.data≠.cell v):Inv X pins' σ H s :=
 ⟨I.ok,I.os,I.bare,I.base,I.loc,I.cell,I.free,I.freeC,λp hp=>(ay.mp hp).elim (λz=>I.pin p (d9 _ z)) (h p),I.hok,I.len⟩
theorem Gx {N:List Str} (hN:N.Nodup) {i j:Nat} {x:Str} (a:N[i]?=some x) (b:N[j]?=some x):i=j:=by
 obtain ⟨h1,e1⟩:=aB.mp a;obtain ⟨h2,e2⟩:=aB.mp b;exact (List.getElem_inj hN).mp (e1.trans e2.symm)
theorem Dk {M:Model} {A:Around} {E:Value->Shared->Prop} {i:Nat} {x:Str} {v:V} {u:Value} {Q:Unit->Shared->Prop} (I:Inv X pins σ H s) (hN:X.N.Nodup) (hi:X.N[i]?=some x) (hx:Loc X.env.scope x) (r:RelV v u)
  (h:∀s',Inv X pins (σ.set i (some v)) H s'->(∃a,Heap.SameBut a s.heap s'.heap/\(a=X.env.locals\/X.env.cells.lookup x=some a))->Q () s') (hf:X.fn x=true\/X.env.scope.names.lookup x=some .local:=by first | exact .inl rfl | exact .inr rfl | assumption):wpAny M A (storeName X.env x u) Q E s:=by
 obtain ⟨m,hn,hl⟩:=id I.loc;have hcls:(X.env.scope.kind == .class || (X.env.scope.kind == .module && X.env.locals != X.env.globals))=false:=by rw[I.ok.kind];rfl
 have hiσ:i < σ.length:=by rw[I.len];exact (aB.mp hi).1
 have cne:=I.cne
 have tracked:∀{a:Addr} {h':Heap},(∃o,s.heap.get? a=some o/\H a=none)->Heap.SameBut a s.heap h'->Bc X.prog X.w H h':=λ{a h'} ha hs b ob e=>by
  obtain ⟨_,_,hfree⟩:=ha;refine (I.hok b ob e).stay (λc w' hc q=>(hs.2 c ?_).trans q) (λ_ q=>q) λ_ _ q=>q
  rintro rfl;rcases hc with rfl | hc
  ·rw[hfree] at e;cases e
  ·rw[hfree] at hc;cases hc
 rcases hx with hk | hk
 ·refine wpAny_storeName_local hk hn (λh' hn' hs=>?_) hcls;obtain ⟨oL,_,_,hoL,_⟩:=id hn;refine h _ ⟨I.ok,I.os,I.bare,⟨λb o e n hb hx=>?_,λb o e n hb hx=>?_,I.base.free,λb o e hx=>?_,I.base.tups,I.base.frzs,I.base.tbls⟩,⟨_,hn',λj y v' e1 e2 e3=>?_⟩,λy c e=>?_,I.free,I.freeC,λp hp=>?_,tracked ⟨oL,hoL,I.free⟩ hs,by simpa using I.len⟩ ⟨_,hs,.inl rfl⟩
  ·exact (hs.2 b (cb (bI (Heap.lt_size e) I.ok.above))).trans (I.base.keep b o e n hb hx)
  ·obtain ⟨sl,e1⟩:=I.base.slot b o e n hb hx;exact ⟨sl,(hs.2 b (cb (bI (Heap.lt_size e) I.ok.above))).trans e1⟩
  ·obtain ⟨o',e1⟩:=I.base.there b o e hx;exact ⟨o',(hs.2 b (cb (bI (Heap.lt_size e) I.ok.above))).trans e1⟩
  ·by_cases hj:j=i
   ·subst hj;rw[hi] at e1;cases e1;rw[List.getElem?_set_self hiσ] at e2;cases e2;exact ⟨u,r,.inl ⟨hk,by simp⟩⟩
   ·rw[List.getElem?_set_ne (Ne.symm hj)] at e2;obtain ⟨u',r',q⟩:=hl j y v' e1 e2 e3;refine ⟨u',r',?_⟩;rcases q with ⟨k,e⟩ | ⟨k,c,e,z⟩
    ·refine .inl ⟨k,?_⟩;have:y≠x:=λe=>hj (Gx hN e1 (e ▸ hi))
     simp [this,e]
    ·exact .inr ⟨k,c,e,z.sameBut hs (cne y c e)⟩
  ·obtain ⟨w',z⟩:=I.cell y c e;exact ⟨w',z.sameBut hs (cne y c e)⟩
  ·obtain ⟨e,n,ne,nf,d⟩:=I.pin p hp;exact ⟨(hs.2 p.1 ne).trans e,n,ne,nf,d⟩
 ·have hfn:X.fn x=true:=by
   rcases hf with z | z
   ·exact z
   ·rw[z] at hk;cases hk
  obtain ⟨c,hc⟩:=I.ok.has x (.inl hk);obtain ⟨w',z⟩:=I.cell x c hc;refine wpAny_storeName_cell I.ok.kind hk hc z (λh' hc' hs=>?_);obtain ⟨oc,hoc,hocd⟩:=id z;refine h { s with heap:=h' } ⟨I.ok,I.os,I.bare,⟨λb o e n hb hx=>?_,λb o e n hb hx=>?_,I.base.free,λb o e hx=>?_,I.base.tups,I.base.frzs,I.base.tbls⟩,⟨m,hn.sameBut hs (Ne.symm (cne x c hc)),λj y v' e1 e2 e3=>?_⟩,λy c' e=>?_,I.free,I.freeC,λp hp=>?_,tracked ⟨oc,hoc,I.freeC x c hc⟩ hs,by simpa using I.len⟩ ⟨c,hs,.inr hc⟩
  ·exact (hs.2 b (cb (bI (Heap.lt_size e) (I.ok.cab x c hfn hc)))).trans (I.base.keep b o e n hb hx)
  ·obtain ⟨sl,e1⟩:=I.base.slot b o e n hb hx;exact ⟨sl,(hs.2 b (cb (bI (Heap.lt_size e) (I.ok.cab x c hfn hc)))).trans e1⟩
  ·obtain ⟨o',e1⟩:=I.base.there b o e hx;exact ⟨o',(hs.2 b (cb (bI (Heap.lt_size e) (I.ok.cab x c hfn hc)))).trans e1⟩
  ·by_cases hj:j=i
   ·subst hj;rw[hi] at e1;cases e1;rw[List.getElem?_set_self hiσ] at e2;cases e2;exact ⟨u,r,.inr ⟨.inl hk,c,hc,hc'⟩⟩
   ·rw[List.getElem?_set_ne (Ne.symm hj)] at e2;obtain ⟨u',r',q⟩:=hl j y v' e1 e2 e3;refine ⟨u',r',?_⟩;rcases q with q | ⟨k,c',e,z'⟩
    ·exact .inl q
    ·refine .inr ⟨k,c',e,z'.sameBut hs ?_⟩;rintro rfl;exact hj (Gx hN e1 (I.ok.inj _ _ _ e hc ▸ hi))
  ·by_cases hcc:c'=c
   ·subst hcc;exact ⟨_,hc'⟩
   ·obtain ⟨w2,z2⟩:=I.cell y c' e;exact ⟨w2,z2.sameBut hs hcc⟩
  ·obtain ⟨e,n,ne,nf,d⟩:=I.pin p hp;refine ⟨(hs.2 p.1 ?_).trans e,n,ne,nf,d⟩;intro q;rw[q,hoc] at e;have q':oc=p.2:=ck e;exact d w' (by rw[<- q'];exact hocd)
theorem yj {M:Model} {A:Around} {E:Value->Shared->Prop} {i:Nat} {x:Str} {v:V} {u:Value} {Q:Unit->Shared->Prop} (I:Inv X pins σ H s) (hN:X.N.Nodup) (hi:X.N[i]?=some x) (hx:Loc X.env.scope x) (r:RelV v u)
  (h:∀s',Inv X pins (σ.set i (some v)) H s'->Q () s') (hf:X.fn x=true\/X.env.scope.names.lookup x=some .local:=by first | exact .inl rfl | exact .inr rfl | assumption):wpAny M A (storeName X.env x u) Q E s :=
 Dk I hN hi hx r (λs' I' _=>h s' I') hf
theorem Inv.call' {s':Shared} {ch:List Addr} (I:Inv X pins σ H s) (ho:s'.os=s.os) (u:Un (KP X.stack) ch H H' s.heap s'.heap) (hok:Bc X.prog X.w H' s'.heap) (hg:AllBare s'.gens)
  (hch:∀b∈ch,(b∈X.ex\/X.s₀.heap.objs.size<=b)/\b≠X.env.locals/\(∀x c,X.env.cells.lookup x=some c->c≠b)/\∀p∈X.pn++pins,p.1≠b):Inv X pins σ H' s':=by
 obtain ⟨h',g',d',t',o'⟩:=s';have e:o'=s.os:=ho;subst e;exact I.call (g':=g') (t':=t') (d':=d') u hok hg hch
end
abbrev XK:=Value->Option Addr->Hp->Prop
abbrev St:=List (Option V)
abbrev VK:=V->Hp->Prop
abbrev TE:=St->Hp->VK->Prop
abbrev TT:=St->Hp->(Bool->Hp->Prop)->Prop
abbrev TA:=St->Hp->(List V->Hp->Prop)->Prop
structure Ends where
 nx:St->Hp->Prop
 rt:VK
 bk:St->Hp->Prop:=λ_ _=>False
 ct:St->Hp->Prop:=λ_ _=>False
abbrev TS:=Ends->St->Hp->Prop
def EP (X:Cx) (pins:List (Addr×Obj)) (σ:St) (Q:VK) (u:Value) (s':Shared):Prop:=∃v H',Inv X pins σ H' s'/\RelV v u/\Q v H'
def TP (X:Cx) (pins:List (Addr×Obj)) (σ:St) (Q:Bool->Hp->Prop) (b:Bool) (s':Shared):Prop:=∃H',Inv X pins σ H' s'/\Q b H'
def AP (X:Cx) (pins:List (Addr×Obj)) (σ:St) (Q:List V->Hp->Prop) (us:List Value) (s':Shared):Prop:=∃vs H',Inv X pins σ H' s'/\cU vs us/\Q vs H'
def SP (X:Cx) (pins:List (Addr×Obj)) (D:Ends) (f:Flow) (s':Shared):Prop :=
 match f with
 | .next=>∃σ' H',Inv X pins σ' H' s'/\D.nx σ' H'
 | .brk=>∃σ' H',Inv X pins σ' H' s'/\D.bk σ' H'
 | .cont=>∃σ' H',Inv X pins σ' H' s'/\D.ct σ' H'
 | .ret u=>∃v σ' H',Inv X pins σ' H' s'/\RelV v u/\D.rt v H'
def PE (X:Cx) (e:Expr) (t:TE):Prop :=
 ∀(pins:List (Addr×Obj)) (s:Shared) (σ:St) (H:Hp) (Q:VK),Inv X pins σ H s->t σ H Q->wpAny (model X.prog X.w) X.A (eval e X.env) (EP X pins σ Q) X.xe s
def PT (X:Cx) (e:Expr) (t:TT):Prop :=
 ∀(pins:List (Addr×Obj)) (s:Shared) (σ:St) (H:Hp) (Q:Bool->Hp->Prop),Inv X pins σ H s->t σ H Q->wpAny (model X.prog X.w) X.A (isTrue e X.env (eval e X.env)) (TP X pins σ Q) X.xe s
def PW (X:Cx) (e:Expr) (t:TT):Prop :=
 ∀(whole:Sem Value) (pins:List (Addr×Obj)) (s:Shared) (σ:St) (H:Hp) (Q:Bool->Hp->Prop),Inv X pins σ H s->t σ H Q->wpAny (model X.prog X.w) X.A (isTrue e X.env whole) (TP X pins σ Q) X.xe s
theorem PW.pt {X:Cx} {e:Expr} {t:TT} (h:PW X e t):PT X e t:=h _
def PA (X:Cx) (es:List Expr) (t:TA):Prop :=
 ∀(pos:Pos) (pins:List (Addr×Obj)) (s:Shared) (σ:St) (H:Hp) (Q:List V->Hp->Prop),Inv X pins σ H s->t σ H Q->wpAny (model X.prog X.w) X.A (spliced (backTo pos (starEach es X.env))) (AP X pins σ Q) X.xe s
def PS (X:Cx) (st:Stmt) (t:TS):Prop :=
 ∀(pins:List (Addr×Obj)) (s:Shared) (σ:St) (H:Hp) (D:Ends),Inv X pins σ H s->t D σ H->wpAny (model X.prog X.w) X.A (exec st X.env) (SP X pins D) X.xe s
def IF (X:Cx) (st:List Stmt) (t:TS):Prop :=
 ∀(pins:List (Addr×Obj)) (s:Shared) (σ:St) (H:Hp) (D:Ends),Inv X pins σ H s->t D σ H->wpAny (model X.prog X.w) X.A (execs st X.env) (SP X pins D) X.xe s
theorem fR {α:Type} {t:Sem α} {Q Q':α->Shared->Prop} {M:Model} {A:Around} {E:Value->Shared->Prop} {s:Shared} (h:wpAny M A t Q E s) (hQ:∀a s,Q a s->Q' a s):wpAny M A t Q' E s:=wpAny_mono h hQ λ_ _ x=>x
section
variable {X:Cx}
def Pg (i:Nat):TE:=λσ H Q=>∃v,σ[i]?=some (some v)/\Q v H
def tC (v:V):TE:=λ_ H Q=>Q v H
theorem Qb {i:Nat} {x:Str} {pos:Pos} (hN:X.N[i]?=some x) (hv:S6 X.env.scope x) (hd:(x == ("__debug__":Str))=false:=by decide) (hcd:(x == ("__classdict__":Str))=false:=by decide):PE X (.Name x pos) (Pg i):=by
 intro pins s σ H Q I h;obtain ⟨v,e,h⟩:=h;obtain ⟨m,hn,hl⟩:=I.loc;obtain ⟨u,r,l⟩:=hl i x v hN e hv;have fin:EP X pins σ Q u s:=⟨v,H,I,r,h⟩;rcases l with ⟨hk,hm⟩ | ⟨hk,c,hc,hcell⟩
 ·exact wpAny_Name (wpAny_loadName_local I.ok.kind hk hn hm fin) hd
 ·rcases hk with hk | hk
  ·exact wpAny_Name (wpAny_loadName_cell I.ok.kind hk hc hcell fin) hd
  ·exact wpAny_Name (wpAny_loadName_free I.ok.kind hk hc hcell fin hcd) hd
theorem aj {i j pos}:PE X (.Constant (.int i) j pos) (tC (.int i)):=λ_ _ _ H _ I h=>wpAny_Constant_int ⟨.int i,H,I.tok _,⟨_,rfl⟩,h⟩
theorem pH {b j pos}:PE X (.Constant (.bool b) j pos) (tC (.bl b)):=λ_ _ _ H _ I h=>Constant_bool ⟨.bl b,H,I,rfl,h⟩
theorem zQ {j pos}:PE X (.Constant .none j pos) (tC .non):=λ_ _ _ H _ I h=>Constant_none ⟨.non,H,I,rfl,h⟩
theorem sV {x j pos}:PE X (.Constant (.str x) j pos) (tC (.str x)):=λ_ _ _ H _ I h=>Calls.Constant_str ⟨.str x,H,I.tok _,⟨_,rfl⟩,h⟩
def Gl (X:Cx) (x:Str):Prop:=X.env.kindOf x=some .globalImplicit
theorem ES {E:Value->Shared->Prop} {pins:List (Addr×Obj)} {s:Shared} {σ:St} {H:Hp} {x:Str} {u:Value} {pos:Pos} {Q:Value->Shared->Prop} (I:Inv X pins σ H s) (hg:Gl X x) (hm:X.mg x=some u) (h:Q u s)
  (hd:(x == ("__debug__":Str))=false:=by decide):wpAny (model X.prog X.w) X.A (eval (.Name x pos) X.env) Q E s :=
 Calls.Name_function_global I.ok.kind hg (Calls.loadGlobal_global (by rw[I.ok.glob];exact I.mod.glob.keeps I.bk) hm h) hd
theorem lV {E:Value->Shared->Prop} {pins:List (Addr×Obj)} {s:Shared} {σ:St} {H:Hp} {x:Str} {u:Value} {pos:Pos} {Q:Value->Shared->Prop} (I:Inv X pins σ H s) (hg:Gl X x) (hm:X.mg x=none) (hv:bootBuiltins x=some u) (h:Q u s)
  (hn:x≠"__name__":=by decide) (hd:(x == ("__debug__":Str))=false:=by decide):wpAny (model X.prog X.w) X.A (eval (.Name x pos) X.env) Q E s:=by
 obtain ⟨mb,h1,h2⟩:=I.mod.blt;exact Calls.Name_function_global I.ok.kind hg (Calls.loadGlobal_builtin (by rw[I.ok.glob];exact I.mod.glob.keeps I.bk) hm (by rw[I.ok.blt];exact h1.keeps I.bk) ((h2 x hn).trans hv) h) hd
theorem yr {x:Str} {v:V} {u:Value} {pos:Pos} (hg:Gl X x) (hm:X.mg x=some u) (r:RelV v u) (hd:(x == ("__debug__":Str))=false:=by decide):PE X (.Name x pos) (tC v) :=
 λ_ _ _ H _ I h=>ES I hg hm ⟨v,H,I,r,h⟩ hd
theorem A0 {x:Str} {v:V} {u:Value} {pos:Pos} (hg:Gl X x) (hm:X.mg x=none) (hv:bootBuiltins x=some u) (r:RelV v u) (hn:x≠"__name__":=by decide) (hd:(x == ("__debug__":Str))=false:=by decide):PE X (.Name x pos) (tC v) :=
 λ_ _ _ H _ I h=>lV I hg hm hv ⟨v,H,I,r,h⟩ hn hd
variable {a b:Expr} {ta tb:TE} {pos:Pos}
def tB (t:TE):TT:=λσ H Q=>t σ H λx H1=>∃c,x=.bl c/\Q c H1
theorem fo {e : Expr} {t : TE} (h : PE X e t) (he : ∀ whole, isTrue e X.env whole = (do let v <- whole; standAt e.pos; holding [v] (truthy v)) := by intro _; rfl) : PT X e (tB t) := by
  intro pins s σ H Q I hw;refine isTrue_plain (fR (h pins s σ H _ I hw) λv s1 ⟨x, H1, I1, r1, q1⟩ => ?_) (he _);obtain ⟨d, rfl, q⟩ := q1;cases r1;exact wpAny_truthy_bool ⟨H1, I1, q⟩

variable {tA tB':TT} {rest:List Expr}
def Rk (t u:TT):TT:=λσ H Q=>t σ H λc H1=>if c=true then u σ H1 Q else Q false H1
def tOr (t u:TT):TT:=λσ H Q=>t σ H λc H1=>if c=true then Q true H1 else u σ H1 Q
def Rf (t:TT):TT:=λσ H Q=>t σ H λc H1=>Q (!c) H1
theorem mB (ha:PT X a tA):PW X (.BoolOp .And [a] pos) tA:=by
 intro wh pins s σ H Q I h;refine isTrue_and (fR (ha pins s σ H Q I h) λc s1 e=>?_);cases c with
 | true=>exact isTrue_and_nil e
 | false=>exact e
theorem kC (ha:PT X a tA):PW X (.BoolOp .Or [a] pos) tA:=by
 intro wh pins s σ H Q I h;refine isTrue_or (fR (ha pins s σ H Q I h) λc s1 e=>?_);cases c with
 | false=>exact isTrue_or_nil e
 | true=>exact e
theorem kD (ha:PT X a tA) (hb:PW X (.BoolOp .And (b :: rest) pos) tB'):PW X (.BoolOp .And (a :: b :: rest) pos) (Rk tA tB'):=by
 intro wh pins s σ H Q I h;refine isTrue_and (fR (ha pins s σ H _ I h) λc s1 ⟨H1,I1,q1⟩=>?_);cases c with
 | true=>exact hb wh pins s1 σ H1 Q I1 q1
 | false=>exact ⟨H1,I1,q1⟩
theorem lB (ha:PT X a tA) (hb:PW X (.BoolOp .Or (b :: rest) pos) tB'):PW X (.BoolOp .Or (a :: b :: rest) pos) (tOr tA tB'):=by
 intro wh pins s σ H Q I h;refine isTrue_or (fR (ha pins s σ H _ I h) λc s1 ⟨H1,I1,q1⟩=>?_);cases c with
 | true=>exact ⟨H1,I1,q1⟩
 | false=>exact hb wh pins s1 σ H1 Q I1 q1
theorem ib (ha:PT X a tA):PT X (.UnaryOp .Not a pos) (Rf tA):=by
 intro pins s σ H Q I h;exact isTrue_not (ha pins s σ H (λc H1=>Q (!c) H1) I h)
def OO (ta tb:TE):TE:=λσ H Q=>ta σ H λx H1=>∃c,x=.bl c/\if c=true then tb σ H1 Q else Q (.bl false) H1
def OI (ta:TE):TE:=λσ H Q=>ta σ H λx H1=>∃c,x=.bl c/\Q (.bl (!c)) H1
theorem HU {op} {t:TE} (h:PE X a t):PE X (.BoolOp op [a] pos) t:=λpins s σ H Q I hw=>BoolOp_one (h pins s σ H Q I hw)
theorem HX (ha:PE X a ta) (hb:PE X (.BoolOp .And (b :: rest) pos) tb):PE X (.BoolOp .And (a :: b :: rest) pos) (OO ta tb):=by
 intro pins s σ H Q I h;refine BoolOp_and (fR (ha pins s σ H _ I h) λv s1 ⟨x,H1,I1,r1,q1⟩=>?_);obtain ⟨c,rfl,q1⟩:=q1;cases r1;refine wpAny_truthy_bool ?_;cases c with
 | true=>exact hb pins s1 σ H1 Q I1 q1
 | false=>exact ⟨.bl false,H1,I1,rfl,q1⟩
theorem Qc (ha:PE X a ta):PE X (.UnaryOp .Not a pos) (OI ta):=by
 intro pins s σ H Q I h;refine UnaryOp_ (fR (ha pins s σ H _ I h) λv s1 ⟨x,H1,I1,r1,q1⟩=>?_);obtain ⟨c,rfl,q1⟩:=q1;cases r1;exact not_of (wpAny_truthy_bool ⟨.bl (!c),H1,I1,rfl,q1⟩)
def tIf (t:TT) (ta tb:TE):TE:=λσ H Q=>t σ H λc H1=>if c=true then ta σ H1 Q else tb σ H1 Q
theorem LI {c:Expr} (hc:PT X c tA) (ha:PE X a ta) (hb:PE X b tb):PE X (.IfExp c a b pos) (tIf tA ta tb):=by
 intro pins s σ H Q I h;refine wpAny_IfExp (fR (hc pins s σ H _ I h) λd s1 ⟨H1,I1,q1⟩=>?_);cases d with
 | true=>exact ha pins s1 σ H1 Q I1 q1
 | false=>exact hb pins s1 σ H1 Q I1 q1
end
def bS (K:FG9) (H:Hp) (a:Addr) (xs:List V):Prop :=
 Rd H a (.lst xs) \/
  ∃(o:Obj) (its:Array Value) (n:Nat),K.lookup a=some o/\o.cls=.type "list"/\o.dict=none/\o.data=.seq its n/\its.size<=sizeLine/\cU xs its.toList
def lA (K:FG9) (H:Hp) (a:Addr) (xs:List V):Prop :=
 Rd H a (.tup xs) \/
  ∃(o:Obj) (its:Array Value) (n:Nat),K.lookup a=some o/\o.cls=.type "tuple"/\o.data=.seq its n/\its.size<=sizeLine/\cU xs its.toList
def S5:Value->Option V
 | .none=>some .non
 | .bool b=>some (.bl b)
 | .int i _=>some (.int i)
 | .str x _=>some (.str x)
 | .bytes b _=>some (.byt b)
 | .float b _=>some (.flt b)
 | .ref a=>some (.ref a)
 | .type n=>some (.ty n)
 | _=>none
theorem RelV.abs {x:V} {u:Value} (r:RelV x u):S5 u=some x:=by
 cases x with
 | non=>cases r;rfl
 | bl _=>cases r;rfl
 | int _=>obtain ⟨t,rfl⟩:=r;rfl
 | str _=>obtain ⟨t,rfl⟩:=r;rfl
 | byt _=>obtain ⟨t,rfl⟩:=r;rfl
 | flt _=>obtain ⟨t,rfl⟩:=r;rfl
 | ref _=>cases r;rfl
 | ty _=>cases r;rfl
theorem RelV.inj {x y:V} {u:Value} (r:RelV x u) (q:RelV y u):x=y:=ck (r.abs.symm.trans q.abs)
theorem cU.inj:∀{xs ys:List V} {us:List Value},cU xs us->cU ys us->xs=ys
 | _,_,_,.nil,.nil=>rfl
 | _,_,_,.cons r t,.cons r' t'=>by rw[r.inj r',cU.inj t t']
section
variable {X:Cx} {pins:List (Addr×Obj)} {σ:St} {H:Hp} {s:Shared} {a:Addr} {xs ys:List V}
theorem bS.of {K:FG9} (h:H a=some (.lst xs)):bS K H a xs:=.inl (.inl h)
theorem lA.of {K:FG9} (h:H a=some (.tup xs)):lA K H a xs:=.inl (.inl h)
theorem Inv.list (I:Inv X pins σ H s) (h:bS X.K H a xs):∃its:List Value,cU xs its/\PlainL s.heap a its.toArray/\xs.length<=sizeLine:=by
 rcases h with h | ⟨o,its,n,hk,hc,hd,hs,hz,r⟩
 ·obtain ⟨z,its,n,r,e⟩:=h.ok I.hok;exact ⟨its,r,⟨_,n,e,rfl,rfl,rfl⟩,z⟩
 ·refine ⟨its.toList,r,⟨o,n,I.kIn a o hk,hc,hd,by simpa using hs⟩,?_⟩;have e:=r.length;simp only[Array.length_toList] at e
  lia
theorem Inv.tuple (I:Inv X pins σ H s) (h:lA X.K H a xs):∃its:List Value,cU xs its/\IsTup s.heap a its.toArray/\xs.length<=sizeLine:=by
 rcases h with h | ⟨o,its,n,hk,hc,hs,hz,r⟩
 ·obtain ⟨z,its,r,p⟩:=h.ok I.hok;exact ⟨its,r,p,z⟩
 ·refine ⟨its.toList,r,⟨o,I.kIn a o hk,hc,n,by simpa using hs⟩,?_⟩;have e:=r.length;simp only[Array.length_toList] at e
  lia
theorem Inv.list_inj (I:Inv X pins σ H s) (h:bS X.K H a xs) (h':bS X.K H a ys):xs=ys:=by
 obtain ⟨its,r,⟨o,n,e,_,_,d⟩,_⟩:=I.list h;obtain ⟨its',r',⟨o',n',e',_,_,d'⟩,_⟩:=I.list h';rw[e] at e';cases e';rw[d] at d';injection d' with d1 _
 have:its=its':=by simpa using congrArg Array.toList d1
 subst this;exact r.inj r'
theorem Inv.tuple_inj (I:Inv X pins σ H s) (h:lA X.K H a xs) (h':lA X.K H a ys):xs=ys:=by
 obtain ⟨its,r,⟨o,e,_,n,d⟩,_⟩:=I.tuple h;obtain ⟨its',r',⟨o',e',_,n',d'⟩,_⟩:=I.tuple h';rw[e] at e';cases e';rw[d] at d';injection d' with d1 _
 have:its=its':=by simpa using congrArg Array.toList d1
 subst this;exact r.inj r'
end
abbrev Cx.wish (X:Cx) (E:Value->Shared->Prop):Cx:={ X with xe:=E }
abbrev Cx.nox (X:Cx):Cx:=X.wish λ_ _=>False
theorem Cx.Ok.wish {X:Cx} (ok:X.Ok) (E:Value->Shared->Prop):(X.wish E).Ok :=
 ⟨ok.mod,ok.kind,ok.glob,ok.blt,ok.above,ok.inj,ok.has,ok.cab,ok.hd,ok.frames,ok.stk,ok.exf,ok.bs,ok.bsz,ok.noex,ok.exfs,ok.funs,ok.frf⟩
theorem Cx.Ok.unwish {X:Cx} {E:Value->Shared->Prop} (ok:(X.wish E).Ok):X.Ok :=
 ⟨ok.mod,ok.kind,ok.glob,ok.blt,ok.above,ok.inj,ok.has,ok.cab,ok.hd,ok.frames,ok.stk,ok.exf,ok.bs,ok.bsz,ok.noex,ok.exfs,ok.funs,ok.frf⟩
section
variable {X:Cx} {pins:List (Addr×Obj)} {σ:St} {H:Hp} {s:Shared} {E:Value->Shared->Prop}
theorem Inv.wish (I:Inv X pins σ H s) (E:Value->Shared->Prop):Inv (X.wish E) pins σ H s:=⟨I.ok.wish E,I.os,I.bare,I.base,I.loc,I.cell,I.free,I.freeC,I.pin,I.hok,I.len⟩
theorem Inv.unwish (I:Inv (X.wish E) pins σ H s):Inv X pins σ H s:=⟨I.ok.unwish,I.os,I.bare,I.base,I.loc,I.cell,I.free,I.freeC,I.pin,I.hok,I.len⟩
theorem SP.unwish {D:Ends} {f:Flow} {s':Shared} (h:SP (X.wish E) pins D f s'):SP X pins D f s':=by
 cases f with
 | next=>obtain ⟨σ',H',I,q⟩:=h;exact ⟨σ',H',I.unwish,q⟩
 | brk=>obtain ⟨σ',H',I,q⟩:=h;exact ⟨σ',H',I.unwish,q⟩
 | cont=>obtain ⟨σ',H',I,q⟩:=h;exact ⟨σ',H',I.unwish,q⟩
 | ret u=>obtain ⟨v,σ',H',I,r,q⟩:=h;exact ⟨v,σ',H',I.unwish,r,q⟩
theorem IF.nox {st:List Stmt} {t:TS} (h:IF X.nox st t):IF X st t:=λpins s σ H D I hw =>
 wpAny_mono (h pins s σ H D (I.wish _) hw) (λ_ _ q=>q.unwish) λ_ _ z=>False.elim z
end
section
variable {X:Cx} {st:Stmt} {rest:List Stmt} {t u:TS} {e:Expr} {te:TE} {pos:Pos}
def OJ:TS:=λD σ H=>D.nx σ H
def Q7 (t u:TS):TS:=λD σ H=>t { D with nx:=u D } σ H
theorem bT:IF X [] OJ:=λ_ _ σ H _ I h=>wpAny_execs_nil ⟨σ,H,I,h⟩
theorem ar (h1:PS X st t) (h2:IF X rest u):IF X (st :: rest) (Q7 t u):=by
 intro pins s σ H D I h;refine wpAny_execs_cons (fR (h1 pins s σ H { D with nx:=u D } I h) λf s1 q=>?_);cases f with
 | next =>
  obtain ⟨σ',H',I',q⟩:=q;exact h2 pins s1 σ' H' D I' q
 | ret v=>exact q
 | brk=>exact q
 | cont=>exact q
theorem az (h1:PS X st t):IF X [st] t:=by
 intro pins s σ H D I h;refine wpAny_execs_cons (fR (h1 pins s σ H D I h) λf s1 q=>?_);cases f with
 | next=>exact wpAny_execs_nil q
 | ret v=>exact q
 | brk=>exact q
 | cont=>exact q
theorem Inv.quiet {pins:List (Addr×Obj)} {σ:St} {H:Hp} {s:Shared} (I:Inv X pins σ H s):interactive X.env=false:=by simp [interactive,I.ok.kind]
def OM (te:TE):TS:=λD σ H=>te σ H λ_ H1=>D.nx σ H1
theorem ij (he:PE X e te) (hs:swapsWith e none pos.line X.env=pure false:=by rfl):PS X (.Expr e pos) (OM te):=by
 intro pins s σ H D I h;exact wpAny_Expr_any (fR (he pins s σ H _ I h) λv s1 ⟨x,H1,I1,r1,q1⟩=>⟨σ,H1,I1,q1⟩) I.quiet hs
def Q8 (te:TE):TS:=λD σ H=>te σ H D.rt
theorem aV (he:PE X e te):PS X (.Return (some e) pos) (Q8 te):=by
 intro pins s σ H D I h;exact wpAny_Return_some (fR (he pins s σ H _ I h) λv s1 ⟨x,H1,I1,r1,q1⟩=>⟨x,σ,H1,I1,r1,q1⟩)
def Ri (c:TT) (t u:TS):TS:=λD σ H=>c σ H λb H1=>if b=true then t D σ H1 else u D σ H1
theorem cO {c:Expr} {a b:List Stmt} {tc:TT} (hc:PT X c tc) (ha:IF X a t) (hb:IF X b u):PS X (.If c a b pos) (Ri tc t u):=by
 intro pins s σ H D I h;refine wpAny_If (fR (hc pins s σ H _ I h) λd s1 ⟨H1,I1,q1⟩=>?_);cases d with
 | true=>exact ha pins s1 σ H1 D I1 q1
 | false=>exact hb pins s1 σ H1 D I1 q1
end
abbrev TG:=V->St->Hp->(St->Hp->Prop)->Prop
abbrev MV:=List V->St->Hp->(St->Hp->Prop)->Prop
def PG (X:Cx) (target:Expr) (t:TG):Prop :=
 ∀(pins:List (Addr×Obj)) (s:Shared) (σ:St) (H:Hp) (v:V) (u:Value) (Q:St->Hp->Prop),Inv X pins σ H s->RelV v u->t v σ H Q →
  wpAny (model X.prog X.w) X.A (assign target X.env u) (λ_ s'=>∃σ' H',Inv X pins σ' H' s'/\Q σ' H') X.xe s
def Se (X:Cx) (ts:List Expr) (t:MV):Prop :=
 ∀(pins:List (Addr×Obj)) (s:Shared) (σ:St) (H:Hp) (vs:List V) (us:List Value) (Q:St->Hp->Prop),Inv X pins σ H s->cU vs us->t vs σ H Q →
  wpAny (model X.prog X.w) X.A (assignInOrder ((assignEach ts X.env).map (·.2)) us) (λ_ s'=>∃σ' H',Inv X pins σ' H' s'/\Q σ' H') X.xe s
abbrev IC:=V->V->V->Hp->(Hp->Prop)->Prop
def QF (X:Cx) (t:IC):Prop :=
 ∀(pins:List (Addr×Obj)) (s:Shared) (σ:St) (H:Hp) (o i v:V) (ov iv u:Value) (Q:Hp->Prop),Inv X pins σ H s->RelV o ov->RelV i iv->RelV v u->t o i v H Q →
  wpAny (model X.prog X.w) X.A (setItem ov iv u) (λ_ s'=>∃H',Inv X pins σ H' s'/\Q H') X.xe s
abbrev Sd:=V->V->Hp->VK->Prop
def PIp (X:Cx) (op:Operator) (t:Sd):Prop :=
 ∀(pins:List (Addr×Obj)) (s:Shared) (σ:St) (H:Hp) (x y:V) (v u:Value) (Q:VK),Inv X pins σ H s->RelV x v->RelV y u->t x y H Q →
  wpAny (model X.prog X.w) X.A (inplaceOp op v u) (EP X pins σ Q) X.xe s
section
variable {X:Cx} {pos:Pos}
def Jt (i:Nat):TG:=λv σ H Q=>Q (σ.set i (some v)) H
theorem aN {i:Nat} {x:Str} (hN:X.N.Nodup) (hi:X.N[i]?=some x:=by exact rfl) (hx:Loc X.env.scope x:=by exact Or.inl rfl) (hf:X.fn x=true\/X.env.scope.names.lookup x=some .local:=by first | exact .inl rfl | exact .inr rfl | assumption):PG X (.Name x pos) (Jt i):=by
 intro pins s σ H v u Q I r h;exact wpAny_assign_Name (yj I hN hi hx r (λs' I'=>⟨_,H,I',h⟩) hf)
def R8:MV:=λvs σ H Q=>vs=[]/\Q σ H
def O1 (t:TG) (u:MV):MV:=λvs σ H Q=>∃v r,vs=v :: r/\t v σ H λσ' H'=>u r σ' H' Q
theorem jc:Se X [] R8:=by
 intro pins s σ H vs us Q I r h;obtain ⟨e,h⟩:=h;subst e;cases r;exact assignInOrder_nil ⟨σ,H,I,h⟩
theorem cH {e:Expr} {es:List Expr} {t:TG} {u:MV} (h1:PG X e t) (h2:Se X es u)
  (hs:(assignEach (e :: es) X.env).map (·.2)=assign e X.env :: (assignEach es X.env).map (·.2):=by rfl):Se X (e :: es) (O1 t u):=by
 intro pins s σ H vs us Q I r h;obtain ⟨v,vr,e1,h⟩:=h;subst e1;cases r with
 | cons r rr =>
  rw[hs];refine assignInOrder_cons (fR (h1 pins s σ H _ _ _ I r h) λ_ s1 ⟨σ1,H1,I1,q1⟩=>?_);exact h2 pins s1 σ1 H1 _ _ Q I1 rr q1
def Qv (K:FG9) (n:Nat) (t:MV):TG:=λv σ H Q=>∃a xs,v=.ref a/\lA K H a xs/\xs.length=n/\t xs σ H Q
theorem va {es:List Expr} {k:Nat} {t:MV} {n:Nat} (hc:X.calm=true) (h:Se X es t)
  (hn:(assignEach es X.env).length=n:=by rfl) (hst:(assignEach es X.env).findIdx? (·.1)=none:=by rfl):PG X (.Tuple es k pos) (Qv X.K n t):=by
 intro pins s σ H v u Q I r hw;obtain ⟨a,xs,e1,hq,hl,hw⟩:=hw;subst e1;cases r;obtain ⟨its,rv,ht,hz⟩:=I.tuple hq;refine assign_Tuple_tuple (I.ok.hd hc) ht (by simp [hn,<- hl,rv.length]) hst λh' hx=>?_
 have I1:Inv X pins σ H { s with heap:=h' }:=I.kept (t':=s.toks) λb o e=>hx b o (cb (Heap.lt_size e)) e
 exact h pins _ σ H xs _ Q I1 (by simpa using rv) hw
def RZ (to ti:TE) (t:IC):TG:=λv σ H Q=>to σ H λo H1=>ti σ H1 λi H2=>t o i v H2 λH3=>Q σ H3
theorem ic {o i : Expr} {to ti : TE} {t : IC} (ho : PE X o to) (hi : PE X i ti) (hs : QF X t)
    (ha : ∀ v, assign (.Subscript o i pos) X.env v = (do
      let ov <- holding [v] (eval o X.env)
      let iv <- holding [v, ov] (eval i X.env)
      standAt pos
      holding [v, ov, iv] (setItem ov iv v)
      release [v, ov, iv] []) := by intro _; rfl) : PG X (.Subscript o i pos) (RZ to ti t) := by
  intro pins s σ H v u Q I r h;rw [ha];refine wpAny_bind (wpAny_holding (fR (ho pins s σ H _ I h) λov s1 ⟨x, H1, I1, r1, q1⟩ => ?_));refine wpAny_bind (wpAny_holding (fR (hi pins s1 σ H1 _ I1 q1) λiv s2 ⟨y, H2, I2, r2, q2⟩ => ?_));refine wpAny_bind (wpAny_standAt (wpAny_bind (wpAny_holding (fR (hs pins s2 σ H2 x y v ov iv u _ I2 r1 r2 r q2) λ_ s3 ⟨H3, I3, q3⟩ => ?_))));exact wpAny_release ⟨σ, H3, I3, q3⟩
def Nh (te:TE) (g:TG):TS:=λD σ H=>te σ H λx H1=>g x σ H1 D.nx
theorem fz {tg e:Expr} {te:TE} {g:TG} (he:PE X e te) (hg:PG X tg g) (hs:swapsWithSole [tg] e pos.line X.env=pure false:=by rfl) (hw:swappedStores [tg] e X.env=pure none:=by rfl)
  (h1:(assignEach [tg] X.env).map (·.2)=[assign tg X.env]:=by rfl):PS X (.Assign [tg] e pos) (Nh te g):=by
 intro pins s σ H D I h;refine wpAny_Assign_stores (fR (he pins s σ H _ I h) λv s1 ⟨x,H1,I1,r1,q1⟩=>?_) hs hw;rw[h1];exact fR (hg pins s1 σ H1 x v _ I1 r1 q1) λ_ s2 q=>q
theorem bp {i:Nat} {x:Str} {e:Expr} {te:TE} {pos':Pos} (hN:X.N.Nodup) (hi:X.N[i]?=some x) (hx:Loc X.env.scope x) (he:PE X e te) (hs:swapsWith e (some (.Name x pos')) pos.line X.env=pure false:=by rfl) (hf:X.fn x=true\/X.env.scope.names.lookup x=some .local:=by first | exact .inl rfl | exact .inr rfl | assumption) :
  PS X (.Assign [.Name x pos'] e pos) (Nh te (Jt i)):=by
 intro pins s σ H D I h;refine wpAny_Assign_Name (fR (he pins s σ H _ I h) λv s1 ⟨y,H1,I1,r1,q1⟩=>?_) hs;exact yj I1 hN hi hx r1 (λs2 I2=>⟨_,H1,I2,q1⟩) hf
def Q9 (i j:Nat) (ta:TA):TS:=λD σ H=>ta σ H λvs H1=>∃v w,vs=[v,w]/\D.nx ((σ.set i (some v)).set j (some w)) H1
theorem LB {i j : Nat} {x y : Str} {a b : Expr} {ta : TA} {px py pt : Pos} {kt k2 pt2} (hc : X.calm = true) (hN : X.N.Nodup) (hi : X.N[i]? = some x) (hj : X.N[j]? = some y) (hij : i ≠ j)
    (hx : X.env.scope.names.lookup x = some .local) (hy : X.env.scope.names.lookup y = some .local) (ha : PA X [a, b] ta)
    (hw : swappedStores [.Tuple [.Name x px, .Name y py] kt pt] (.Tuple [a, b] k2 pt2) X.env = pure (some [x, y]))
    (hs : swapsWithSole [.Tuple [.Name x px, .Name y py] kt pt] (.Tuple [a, b] k2 pt2) pos.line X.env = pure false := by rfl) :
    PS X (.Assign [.Tuple [.Name x px, .Name y py] kt pt] (.Tuple [a, b] k2 pt2) pos) (Q9 i j ta) := by
  intro pins s σ H D I h;rw [exec_Assign_arm];refine wpAny_bind (wpAny_standAt ?_);rw [hs];refine wpAny_bind (wpAny_pure ?_);rw [if_neg (by decide)];refine wpAny_bind (Tuple_ (fR (ha _ pins s σ H _ I h) λus s1 ⟨vs, H1, I1, r1, q1⟩ => ?_));obtain ⟨v, w, e1, q1⟩ := q1;subst e1
  obtain ⟨u1, u2, rfl, rv, rw'⟩ : ∃ u1 u2, us = [u1, u2] /\ RelV v u1 /\ RelV w u2 := by
    cases r1 with
    | cons p q =>
      cases q with
      | cons p' q' =>
        cases q';exact ⟨_, _, rfl, p, p'⟩
  refine wpAny_newObj_type ?_ (by show 2 ≤ sizeLine; decide);have I2 : Inv X pins σ H1 { s1 with heap := s1.heap.push { cls := .type "tuple", data := .seq [u1, u2].toArray } } := I1.kept (t' := s1.toks) λb o e => Heap.get?_push_of_some _ e
  rw [hw];refine wpAny_bind (wpAny_pure ?_);show wpAny (model X.prog X.w) X.A (do rule "assign.swapped-stores"; let items <- unpackItems (.ref s1.heap.objs.size) 2 none; assignInOrder [λv => bindName X.env y v, λv => bindName X.env x v] items.reverse; pure Flow.next) _ _ _
  refine wpAny_bind (wpAny_rule (wpAny_bind (unpackItems_tuple (items := #[u1, u2]) (I.ok.hd hc) (IsTup.new s1.heap _) λh' hx' => ?_)));have I3 := I2.kept (h' := h') (t' := s1.toks) λb o e => hx' b o (cb (Heap.lt_size e)) e
  show wpAny _ _ (assignInOrder [λv => bindName X.env y v, λv => bindName X.env x v] [u2, u1] >>= λ_ => pure Flow.next) _ _ _
  refine wpAny_bind (assignInOrder_cons (wpAny_bindName (yj I3 hN hj (.inl hy) rw' (λs2 I4 => ?_) (.inr hy))));refine assignInOrder_cons (wpAny_bindName (yj I4 hN hi (.inl hx) rv (λs3 I5 => assignInOrder_nil (wpAny_pure ?_)) (.inr hx)));rw [List.set_comm _ _ (Ne.symm hij)] at I5;exact ⟨_, H1, I5, q1⟩
def ON (to ti te:TE) (tget:V->V->Hp->VK->Prop) (tip:Sd) (tset:IC):TS:=λD σ H=>to σ H λo H1=>ti σ H1 λi H2=>tget o i H2 λx H3=>te σ H3 λy H4=>tip x y H4 λz H5=>tset o i z H5 λH6=>D.nx σ H6
def Sf (X:Cx) (t:V->V->Hp->VK->Prop):Prop :=
 ∀(pins:List (Addr×Obj)) (s:Shared) (σ:St) (H:Hp) (o i:V) (ov iv:Value) (Q:VK),Inv X pins σ H s->RelV o ov->RelV i iv->t o i H Q →
  wpAny (model X.prog X.w) X.A (getItem ov iv) (EP X pins σ Q) X.xe s
theorem N3 {o i e : Expr} {to ti te : TE} {tget : V → V → Hp → VK → Prop} {tip : Sd} {tset : IC} {op : Operator} {tpos : Pos} (ho : PE X o to) (hi : PE X i ti) (hg : Sf X tget) (he : PE X e te) (hp : PIp X op tip) (hs : QF X tset)
    (ha : ∀ ov iv new, augStore i ov iv new = (do holding [new, ov, iv] (setItem ov iv new); release [new, ov, iv] []; pure .next) := by intros; rfl) : PS X (.AugAssign (.Subscript o i tpos) op e pos) (ON to ti te tget tip tset) := by
  intro pins s σ H D I h;refine wpAny_AugAssign_SubscriptAny (fR (ho pins s σ H _ I h) λov s1 ⟨x1, H1, I1, r1, q1⟩ => ?_) ha;refine fR (hi pins s1 σ H1 _ I1 q1) λiv s2 ⟨x2, H2, I2, r2, q2⟩ => ?_
  refine fR (hg pins s2 σ H2 x1 x2 ov iv _ I2 r1 r2 q2) λold s3 ⟨x3, H3, I3, r3, q3⟩ => ?_
  refine fR (he pins s3 σ H3 _ I3 q3) λv s4 ⟨x4, H4, I4, r4, q4⟩ => ?_
  refine fR (hp pins s4 σ H4 x3 x4 old v _ I4 r3 r4 q4) λnew s5 ⟨x5, H5, I5, r5, q5⟩ => ?_
  exact fR (hs pins s5 σ H5 x1 x2 x5 ov iv new _ I5 r1 r2 r5 q5) λ_ s6 ⟨H6, I6, q6⟩ => ⟨σ, H6, I6, q6⟩
def ipI (f:Int->Int->Int):Sd:=λx y H Q=>∃i j,x=.int i/\y=.int j/\Q (.int (f i j)) H
theorem Qr:PIp X .Add (ipI λi j=>i+j):=by
 intro pins s σ H x y v u Q I r1 r2 h;obtain ⟨i,j,e1,e2,q⟩:=h;subst e1;subst e2;obtain ⟨t,rfl⟩:=r1;obtain ⟨t',rfl⟩:=r2;exact iadd_int ⟨.int _,H,I.tok _,⟨_,rfl⟩,q⟩
end
section
variable {X:Cx} {pos:Pos}
def K5 (c:TT) (tb:TS):TS:=λD σ H=>∃W:Nat->St->Hp->Prop,(∃m,W m σ H)/\∀m σ H,W m σ H →
 c σ H λb H1=>if b=true then ∃N:St->Hp->Prop,(∀σ' H',N σ' H'->∃m',m' < m/\W m' σ' H')/\tb { D with nx:=N,ct:=N,bk:=D.nx } σ H1 else D.nx σ H1
theorem BK {c:Expr} {body:List Stmt} {tc:TT} {tb:TS} (hp:PassesOwn (model X.prog X.w) X.A X.env X.xe) (hc:PT X c tc) (hb:IF X body tb):PS X (.While c body [] pos) (K5 tc tb):=by
 intro pins s σ H D I h;obtain ⟨W,⟨m0,w0⟩,turn⟩:=h;refine wpAny_While (codeAny_whileLoop (λn s'=>∃σ' H',Inv X pins σ' H' s'/\W n σ' H') ?_ m0 ⟨σ,H,I,w0⟩);rintro n s1 ⟨σ1,H1,I1,w1⟩;refine wpAny_passesOwn hp (fR (hc pins s1 σ1 H1 _ I1 (turn n σ1 H1 w1)) λb s2 ⟨H2,I2,q2⟩=>?_);cases b with
 | true =>
  obtain ⟨N,hN,q2⟩:=q2;rw[if_pos rfl];refine wpAny_passesOwn hp (fR (hb pins s2 σ1 H2 _ I2 q2) λf s3 q3=>?_);cases f with
  | next =>
   obtain ⟨σ3,H3,I3,n3⟩:=q3;obtain ⟨m',hm,w3⟩:=hN σ3 H3 n3;exact ⟨m',hm,σ3,H3,I3,w3⟩
  | cont =>
   obtain ⟨σ3,H3,I3,n3⟩:=q3;obtain ⟨m',hm,w3⟩:=hN σ3 H3 n3;exact ⟨m',hm,σ3,H3,I3,w3⟩
  | brk=>exact q3
  | ret v=>exact q3
 | false =>
  rw[if_neg bg];exact wpAny_execs_nil ⟨σ1,H2,I2,q2⟩
end
structure It where
 go:Nat->Hp->Prop
 yld:Nat->Hp->V->Hp->Prop
 stop:Nat->Hp->Prop
def lZ (X:Cx) (pins:List (Addr×Obj)) (H:Hp) (b:Addr):Prop :=
 H b=none/\b≠X.env.locals/\b∉X.fs/\(b∈X.ex\/X.s₀.heap.objs.size<=b)/\(∀x c,X.env.cells.lookup x=some c->c≠b)/\∀p∈X.pn++pins,p.1≠b
theorem Inv.fpOk {X:Cx} {pins:List (Addr×Obj)} {σ:St} {H H':Hp} {s:Shared} {b:Addr} (I:Inv X pins σ H s) (hb:s.heap.objs.size<=b) (hn:H' b=none):lZ X pins H' b:=by
 refine ⟨hn,JM (bI I.lt hb),I.nofs hb,.inr (ai I.sz hb),λx c e z=>?_,λp hp z=>?_⟩
 ·obtain ⟨v,q⟩:=I.cell x c e;exact absurd (bI q.lt (by rw[z];exact hb)) (eH _)
 ·exact absurd (bI (Heap.lt_size (I.pin p hp).1) (by rw[z];exact hb)) (eH _)
structure Turn (P:Program) (w:World) (K:FG9) (tg:Expr) (J:It) (fp:List Addr) (it:Addr) (tn:Nat->Heap->Prop):Prop where
 mem:it∈fp
 obj:∀i h,tn i h->∀b∈fp,∃o,h.get? b=some o/\∀v,o.data≠.cell v
 keep:∀i h h',tn i h->(∀b∈fp,∀o,h.get? b=some o->h'.get? b=some o)->tn i h'
 item:∀(X:Cx),X.prog=P->X.w=w->X.K=K->X.calm=true->∀(i:Nat) (pins:List (Addr×Obj)) (s:Shared) (σ:St) (H:Hp) (E:Value->Shared->Prop),Inv X pins σ H s->(∀b∈fp,lZ X pins H b)->tn i s.heap->J.go i H →
  wpAny (model P w) X.A (pyNext (.ref it)) (λr s1=>∃u,r=some u /\
   wpAny (model P w) X.A (letOwnedTupleGo tg (.ref it) u) (λ_ s2=>∃x H',Inv X pins σ H' s2/\RelV x u/\J.yld i H x H'/\tn (i+1) s2.heap/\∀b∈fp,H' b=none) E s1) E s
 done:∀(X:Cx),X.prog=P->X.w=w->X.K=K->X.calm=true->∀(i:Nat) (pins:List (Addr×Obj)) (s:Shared) (σ:St) (H:Hp) (E:Value->Shared->Prop),Inv X pins σ H s->(∀b∈fp,lZ X pins H b)->tn i s.heap->J.stop i H →
  wpAny (model P w) X.A (pyNext (.ref it)) (λr s1=>r=none/\Inv X pins σ H s1) E s
 self:∀(A:Around) (i:Nat) (s:Shared) (Q:Value->Shared->Prop) (E:Value->Shared->Prop),tn i s.heap->Q (.ref it) s->wpAny (model P w) A (pyIter (.ref it)) Q E s
abbrev TI:=St->Hp->(It->Hp->Prop)->Prop
def PIE (X:Cx) (pins:List (Addr×Obj)) (σ:St) (tg:Expr) (R:It->Hp->Prop) (itv:Value) (s2:Shared):Prop :=
 ∃(it:Addr) (fp:List Addr) (tn:Nat->Heap->Prop) (J:It) (H':Hp),itv=.ref it/\Inv X pins σ H' s2/\Turn X.prog X.w X.K tg J fp it tn/\tn 0 s2.heap/\(∀b∈fp,lZ X pins H' b)/\R J H'
def PI (X:Cx) (tg iter:Expr) (wi:TI):Prop :=
 ∀(pins:List (Addr×Obj)) (s:Shared) (σ:St) (H:Hp) (R:It->Hp->Prop),Inv X pins σ H s->wi σ H R →
  wpAny (model X.prog X.w) X.A (eval iter X.env) (λv s1=>wpAny (model X.prog X.w) X.A (pyIter v) (PIE X pins σ tg R) X.xe s1) X.xe s
theorem Mf {M : Model} {A : Around} {E : Value → Shared → Prop} {s : Shared} {tg : Expr} {it : Addr} {u : Value} {o : Obj} {n : String} {vs : Array Value} {Q : Unit → Shared → Prop} (ho : s.heap.get? it = some o) (hc : o.cls = .type n) (hd : o.data = .fields vs)
    (hn : ["enumerate", "zip", "dict_itemiterator", "dict_reverseitemiterator", "odict_iterator", "itertools.zip_longest", "itertools.pairwise"].contains n = false) (hQ : Q () s) : wpAny M A (letOwnedTupleGo tg (.ref it) u) Q E s := by
  unfold letOwnedTupleGo
  cases tg <;> first
    | exact wpAny_pure hQ
    | (cases u <;> first
        | exact wpAny_pure hQ
        | (refine wpAny_bind (wpAny_load ho ?_)
           rw [hc, hd];show wpAny M A (if (["enumerate", "zip", "dict_itemiterator", "dict_reverseitemiterator", "odict_iterator", "itertools.zip_longest", "itertools.pairwise"].contains n && vs[0]? == some (rawInt _)) = true then _ else _) Q E s
           rw [if_neg (by intro h; rw [hn, Bool.false_and] at h; cases h)];exact wpAny_pure hQ))

def MW (K:FG9) (a:Addr):It :=
 ⟨λi H=>∃xs x,bS K H a xs/\xs[i]?=some x,λi H x H'=>H'=H/\∀xs,bS K H a xs->xs[i]?=some x,λi H=>∃xs,bS K H a xs/\xs.length<=i⟩
def OE (K:FG9) (a:Addr):It :=
 ⟨λi H=>∃xs x,lA K H a xs/\xs[i]?=some x,λi H x H'=>H'=H/\∀xs,lA K H a xs->xs[i]?=some x,λi H=>∃xs,lA K H a xs/\xs.length<=i⟩
def Hw (lo:Int) (n:Nat):It:=⟨λi _=>i < n,λi H x H'=>H'=H/\x=.int (lo+i),λi _=>n<=i⟩
theorem Di {P:Program} {w:World} {K:FG9} {tg:Expr} (a it:Addr):Turn P w K tg (MW K a) [it] it (λi h=>h.IsListIter it a i) where
 mem:=by simp
 obj:=λi h st b hb=>by
  have e:b=it:=by simpa using hb
  subst e;obtain ⟨o,e,c,d⟩:=st;exact ⟨o,e,λv z=>by rw[d] at z;cases z⟩
 keep:=λi h h' st k=>st.at λo e=>k it (by simp) o e
 item:=by
  intro X hP hw hK hc i pins s σ H E I hf st hg;subst hP hw hK;obtain ⟨xs,x,hq,hx⟩:=hg;obtain ⟨its,rv,p,hz⟩:=I.list hq;obtain ⟨u,hu,ru⟩:=rv.get hx;obtain ⟨f0,f1,f2,f3,f4,f5⟩:=hf it (by simp);refine wpAny_pyNext_list_item st p.isList (x:=u) (by simpa using hu) λh' st' sb=>?_
  have I1:Inv X pins σ H { s with heap:=h' }:=I.turned (t':=s.toks) (λb o hb e=>(sb.2 b hb).trans e) f0 f1 f3 f4 f5;obtain ⟨o,e,c,d⟩:=id st';exact ⟨u,rfl,Mf (s:={ s with heap:=h' }) e c d (by decide) ⟨x,H,I1,ru,⟨rfl,λys hy=>by rw[I.list_inj hy hq];exact hx⟩,st',λb hb=>(hf b hb).1⟩⟩
 done:=by
  intro X hP hw hK hc i pins s σ H E I hf st hg;subst hP hw hK;obtain ⟨xs,hq,hx⟩:=hg;obtain ⟨its,rv,p,hz⟩:=I.list hq;obtain ⟨f0,f1,f2,f3,f4,f5⟩:=hf it (by simp);have hl:=rv.length;exact wpAny_pyNext_list_end (I.ok.hd hc) st p.isList (by simp;lia) λh' eb=>⟨rfl,I.turned (t':=s.toks) (λb o hb e=>eb b o hb e) f0 f1 f3 f4 f5⟩
 self:=λ_ _ _ _ _ st h=>wpAny_pyIter_listiter st h
theorem Bl {P:Program} {w:World} {K:FG9} {tg:Expr} (a it:Addr):Turn P w K tg (OE K a) [it] it (λi h=>h.IsTupleIter it a i) where
 mem:=by simp
 obj:=λi h st b hb=>by
  have e:b=it:=by simpa using hb
  subst e;obtain ⟨o,e,c,d⟩:=st;exact ⟨o,e,λv z=>by rw[d] at z;cases z⟩
 keep:=λi h h' st k=>st.at λo e=>k it (by simp) o e
 item:=by
  intro X hP hw hK hc i pins s σ H E I hf st hg;subst hP hw hK;obtain ⟨xs,x,hq,hx⟩:=hg;obtain ⟨its,rv,p,hz⟩:=I.tuple hq;obtain ⟨u,hu,ru⟩:=rv.get hx;obtain ⟨f0,f1,f2,f3,f4,f5⟩:=hf it (by simp);refine wpAny_pyNext_tuple_item st (show s.heap.IsTuple a its.toArray from p) (x:=u) (by simpa using hu) λh' st' sb=>?_
  have I1:Inv X pins σ H { s with heap:=h' }:=I.turned (t':=s.toks) (λb o hb e=>(sb.2 b hb).trans e) f0 f1 f3 f4 f5;obtain ⟨o,e,c,d⟩:=id st';exact ⟨u,rfl,Mf (s:={ s with heap:=h' }) e c d (by decide) ⟨x,H,I1,ru,⟨rfl,λys hy=>by rw[I.tuple_inj hy hq];exact hx⟩,st',λb hb=>(hf b hb).1⟩⟩
 done:=by
  intro X hP hw hK hc i pins s σ H E I hf st hg;subst hP hw hK;obtain ⟨xs,hq,hx⟩:=hg;obtain ⟨its,rv,p,hz⟩:=I.tuple hq;obtain ⟨f0,f1,f2,f3,f4,f5⟩:=hf it (by simp);have hl:=rv.length;exact wpAny_pyNext_tuple_end (I.ok.hd hc) st (show s.heap.IsTuple a its.toArray from p) (by simp;lia) λh' eb=>⟨rfl,I.turned (t':=s.toks) (λb o hb e=>eb b o hb e) f0 f1 f3 f4 f5⟩
 self:=λ_ _ _ _ _ st h=>wpAny_pyIter_tupleiter st h
theorem HF {P:Program} {w:World} {K:FG9} {tg:Expr} (it:Addr) (lo:Int) (n:Nat):Turn P w K tg (Hw lo n) [it] it (λi h=>IsRangeIter h it (lo+(i:Nat)*1) ((n:Int) - (i:Nat)) 1) where
 mem:=by simp
 obj:=λi h st b hb=>by
  have e:b=it:=by simpa using hb
  subst e
  exact ⟨_,st,λv z=>by
   have z':Data.fields _=Data.cell v:=z;cases z'⟩
 keep:=λi h h' st k=>k it (by simp) _ st
 item:=by
  intro X hP hw hK hc i pins s σ H E I hf st hg;subst hP hw hK;obtain ⟨f0,f1,f2,f3,f4,f5⟩:=hf it (by simp);have W:=Walks.range (prog:=X.prog) (w:=X.w) (I.ok.hd hc) it lo 1 n;refine W.item i s _ _ hg st λv h' tk hv st' kk=>?_
  obtain ⟨t,rfl⟩:=hv;have I1:Inv X pins σ H { s with heap:=h',toks:=tk }:=I.turned (λb o hb e=>kk b o (by simpa using hb) e) f0 f1 f3 f4 f5;refine ⟨_,rfl,Mf (s:={ s with heap:=h',toks:=tk }) (n:="range_iterator") st' rfl rfl (by decide) ⟨.int (lo+i),H,I1,⟨t,?_⟩,⟨rfl,rfl⟩,st',λb hb=>(hf b hb).1⟩⟩;rw[Int.mul_one]
 done:=by
  intro X hP hw hK hc i pins s σ H E I hf st hg;subst hP hw hK;obtain ⟨f0,f1,f2,f3,f4,f5⟩:=hf it (by simp);exact wpAny_pyNext_range_end (I.ok.hd hc) st (by have:n<=i:=hg;lia) λh' eb=>⟨rfl,I.turned (t':=s.toks) (λb o hb e=>eb b o hb e) f0 f1 f3 f4 f5⟩
 self:=λ_ _ _ _ _ st h=>wpAny_pyIter_rangeiter st h
section
variable {X:Cx} {tg:Expr}
def Md (K:FG9) (tl:TE):TI:=λσ H R=>tl σ H λx H1=>∃a,x=.ref a/\(∃xs,bS K H1 a xs)/\R (MW K a) H1
def RY (K:FG9) (tl:TE):TI:=λσ H R=>tl σ H λx H1=>∃a,x=.ref a/\(∃xs,lA K H1 a xs)/\R (OE K a) H1
theorem cR {l:Expr} {tl:TE} (hl:PE X l tl):PI X tg l (Md X.K tl):=by
 intro pins s σ H R I h;refine fR (hl pins s σ H _ I h) λv s1 ⟨x,H1,I1,r1,q1⟩=>?_
 obtain ⟨a,e,⟨xs,hq⟩,q⟩:=q1;subst e;cases r1;obtain ⟨its,rv,p,hz⟩:=I1.list hq;refine wpAny_pyIter_list p.isList ?_;refine ⟨s1.heap.objs.size,[s1.heap.objs.size],_,_,H1,rfl,I1.kept (t':=s1.toks) λb o e=>Heap.get?_push_of_some _ e,Di a _,⟨_,Heap.get?_push_size _ rfl,rfl,rfl⟩,λb hb=>?_,q⟩;have e:b=s1.heap.objs.size:=by simpa using hb
 subst e;exact I1.fpOk (ak _) (I1.hok.fresh (ak _))
theorem LH {l:Expr} {tl:TE} (hl:PE X l tl):PI X tg l (RY X.K tl):=by
 intro pins s σ H R I h;refine fR (hl pins s σ H _ I h) λv s1 ⟨x,H1,I1,r1,q1⟩=>?_
 obtain ⟨a,e,⟨xs,hq⟩,q⟩:=q1;subst e;cases r1;obtain ⟨its,rv,p,hz⟩:=I1.tuple hq;refine wpAny_pyIter_tuple (show s1.heap.IsTuple a its.toArray from p) ?_;refine ⟨s1.heap.objs.size,[s1.heap.objs.size],_,_,H1,rfl,I1.kept (t':=s1.toks) λb o e=>Heap.get?_push_of_some _ e,Bl a _,⟨_,Heap.get?_push_size _ rfl,rfl,rfl⟩,λb hb=>?_,q⟩;have e:b=s1.heap.objs.size:=by simpa using hb
 subst e;exact I1.fpOk (ak _) (I1.hok.fresh (ak _))
theorem Gi {pins:List (Addr×Obj)} {σ:St} {H:Hp} {s:Shared} {R:It->Hp->Prop} {E:Value->Shared->Prop} {lo hi:Int} {t u v:Tok} {tk:Nat} (I:Inv X pins σ H s) (h1:-(2^62)<=lo) (h2:lo < 2^62) (h3:-(2^62)<=hi) (h4:hi < 2^62)
  (q:R (Hw lo (hi - lo).toNat) H):wpAny (model X.prog X.w) X.A (pyIter (.ref s.heap.objs.size)) (PIE X pins σ tg R) E { s with heap:=s.heap.push { cls:=.type "range",data:=.fields #[.int lo t,.int hi u,.int 1 v] },toks:=tk }:=by
 refine wpAny_pyIter_range (IsRange.new ..) (small_one h1 h2 h3 h4) ?_;have I1:Inv X pins σ H { s with heap:=s.heap.push { cls:=.type "range",data:=.fields #[.int lo t,.int hi u,.int 1 v] },toks:=tk }:=I.kept λb o e=>Heap.get?_push_of_some _ e
 refine ⟨(s.heap.push { cls:=.type "range",data:=.fields #[.int lo t,.int hi u,.int 1 v] }).objs.size,[(s.heap.push { cls:=.type "range",data:=.fields #[.int lo t,.int hi u,.int 1 v] }).objs.size],_,_,H,rfl,
  I1.kept (t':=tk) λb o e=>Heap.get?_push_of_some _ e,HF _ lo (hi - lo).toNat,?_,λb hb=>?_,q⟩
 ·have e1:lo+((0:Nat):Int)*1=lo:=by simp
  have e2:(((hi - lo).toNat:Nat):Int) - ((0:Nat):Int)=Builtin.Range.rangeSize lo hi 1:=by rw[rangeSize_one];split <;> lia
  show IsRangeIter _ _ (lo+((0:Nat):Int)*1) ((((hi - lo).toNat:Nat):Int) - ((0:Nat):Int)) 1
  rw[e1,e2];exact Heap.get?_push_size _ rfl
 ·have e:b=(s.heap.push { cls:=.type "range",data:=.fields #[.int lo t,.int hi u,.int 1 v] }).objs.size:=by simpa using hb
  subst e;exact I1.fpOk (ak _) (I1.hok.fresh (ak _))
def OY (ta:TA):TI:=λσ H R=>ta σ H λvs H1=>∃j:Int,vs=[.int j]/\-(2^62)<=j/\j < 2^62/\R (Hw 0 j.toNat) H1
def OX (ta:TA):TI:=λσ H R=>ta σ H λvs H1=>∃i j:Int,vs=[.int i,.int j]/\(-(2^62)<=i/\i < 2^62/\-(2^62)<=j/\j < 2^62)/\R (Hw i (j - i).toNat) H1
theorem cu {a:Expr} {ta:TA} {p pos:Pos} (hg:Gl X "range") (hm:X.mg "range"=none) (ha:PA X [a] ta) (hs:starEach [a] X.env=[(false,eval a X.env)]:=by rfl):PI X tg (.Call (.Name "range" p) [a] [] pos) (OY ta):=by
 intro pins s σ H R I h;refine Call_ (lV I hg hm boot_range (PyProof.Rows.callWith_type1 (fR (ha pos pins s σ H _ I h) λus s1 ⟨vs,H1,I1,r1,q1⟩=>?_) hs rfl));obtain ⟨j,e,q1,q2,q⟩:=q1;subst e;cases r1 with
 | cons r rr =>
  cases rr;obtain ⟨t,rfl⟩:=r;exact call_range_1 (Gi I1 (by lia) (by lia) q1 q2 (by simpa using q))
theorem Kd {a b:Expr} {ta:TA} {p pos:Pos} (hg:Gl X "range") (hm:X.mg "range"=none) (ha:PA X [a,b] ta) (hs:starEach [a,b] X.env=[(false,eval a X.env),(false,eval b X.env)]:=by rfl) (hs2:starEach [b] X.env=[(false,eval b X.env)]:=by rfl) :
  PI X tg (.Call (.Name "range" p) [a,b] [] pos) (OX ta):=by
 intro pins s σ H R I h;refine Call_ (lV I hg hm boot_range (PyProof.Rows.callWith_type1 (fR (ha pos pins s σ H _ I h) λus s1 ⟨vs,H1,I1,r1,q1⟩=>?_) (by rw[hs,hs2]) (by rw[hs2];rfl)));obtain ⟨i,j,e,⟨q1,q2,q3,q4⟩,q⟩:=q1;subst e;cases r1 with
 | cons r rr =>
  cases rr with
  | cons r' rr =>
   cases rr;obtain ⟨t,rfl⟩:=r;obtain ⟨t',rfl⟩:=r';exact call_range_2 (Gi I1 q1 q2 q3 q4 q)
def Rj (wi:TI) (g:TG) (tb:TS):TS:=λD σ H=>wi σ H λJ H1=>∃W:Nat->Nat->St->Hp->Prop,(∃m,W 0 m σ H1)/\∀i m σ H,W i m σ H →
 (J.stop i H/\D.nx σ H)\/(J.go i H/\∃N:St->Hp->Prop,(∀σ' H',N σ' H'->∃m',m' < m/\W (i+1) m' σ' H')/\∀x H',J.yld i H x H'->g x σ H' λσ2 H2=>tb { D with nx:=N,ct:=N,bk:=D.nx } σ2 H2)
def BM (fp:List Addr) (h:Heap):List (Addr×Obj):=fp.filterMap λb=>(h.get? b).map λo=>(b,o)
theorem tw {fp:List Addr} {h:Heap} {b:Addr} {o:Obj} (hb:b∈fp) (e:h.get? b=some o):(b,o)∈BM fp h:=List.mem_filterMap.mpr ⟨b,hb,by rw[e];rfl⟩
theorem Ki {fp:List Addr} {h:Heap} {p:Addr×Obj} (hp:p∈BM fp h):p.1∈fp/\h.get? p.1=some p.2:=by
 obtain ⟨b,hb,e⟩:=List.mem_filterMap.mp hp;cases q:h.get? b with
 | none=>rw[q] at e;cases e
 | some o =>
  rw[q] at e;have e':(b,o)=p:=ck e;subst e';exact ⟨hb,q⟩
theorem Inv.pinned {pins:List (Addr×Obj)} {σ:St} {H:Hp} {s:Shared} {fp:List Addr} (I:Inv X pins σ H s) (hf:∀b∈fp,lZ X pins H b) (ho:∀b∈fp,∃o,s.heap.get? b=some o/\∀v,o.data≠.cell v):Inv X (pins++BM fp s.heap) σ H s :=
 I.pins_of λp hp=>(ay.mp hp).elim (λz=>I.pin p (bG _ z)) λz=>by
  obtain ⟨hb,e⟩:=Ki z;obtain ⟨f0,f1,f2,_⟩:=hf p.1 hb;obtain ⟨o,e',d⟩:=ho p.1 hb;rw[e] at e';cases e';exact ⟨e,f0,f1,f2,d⟩
theorem Inv.unpinned {pins pl:List (Addr×Obj)} {σ:St} {H:Hp} {s:Shared} (I:Inv X (pins++pl) σ H s):Inv X pins σ H s:=I.pins_of λp hp=>I.pin p (bG _ (d9 _ hp))
theorem dR {iter : Expr} {body : List Stmt} {wi : TI} {g : TG} {tb : TS} {pos : Pos} (hp : PassesOwn (model X.prog X.w) X.A X.env X.xe) (hc : X.calm = true) (hi : PI X tg iter wi) (hg : PG X tg g) (hb : IF X body tb)
    (hs : ∀ x, foldedSetIterable iter X.env x = pure x := by intro _; rfl) : PS X (.For tg iter body [] pos) (Rj wi g tb) := by
  intro pins s σ H D I h;refine wpAny_For (fR (hi pins s σ H _ I h) λv s1 h1 => fR h1 λitv s2 h2 => ?_) hs;obtain ⟨it, fp, tn, J, H2, e, I2, T, st2, f2, W, ⟨m0, w0⟩, turn⟩ := h2;subst e;have stat : ∀ {H' : Hp}, (∀ b ∈ fp, H' b = none) → ∀ b ∈ fp, lZ X pins H' b := λhn b hb => ⟨hn b hb, (f2 b hb).2⟩
  refine codeAny_forLoop_any (λn s' => ∃ i σ' H', Inv X pins σ' H' s' /\ tn i s'.heap /\ (∀ b ∈ fp, H' b = none) /\ W i n σ' H') ?_ m0 ⟨0, σ, H2, I2, st2, λb hb => (f2 b hb).1, w0⟩;rintro n s3 ⟨i, σ3, H3, I3, st3, fr3, w3⟩;rcases turn i n σ3 H3 w3 with ⟨stop, qn⟩ | ⟨go, N, hN, step⟩
  · refine wpAny_passesOwn hp (fR (T.done X rfl rfl rfl hc i pins s3 σ3 H3 X.xe I3 (stat fr3) st3 stop) λr s4 ⟨hr, I4⟩ => ?_);subst hr;exact wpAny_execs_nil ⟨σ3, H3, I4, qn⟩
  · refine wpAny_passesOwn hp (fR (T.item X rfl rfl rfl hc i pins s3 σ3 H3 X.xe I3 (stat fr3) st3 go) λr s4 ⟨u, hr, h4⟩ => ?_);subst hr;refine wpAny_passesOwn hp (fR h4 λ_ s5 ⟨x, H5, I5, r5, y5, st5, fr5⟩ => ?_);have I5' := I5.pinned (stat fr5) (T.obj _ _ st5);refine wpAny_passesOwn hp (fR (hg _ s5 σ3 H5 x u _ I5' r5 (step x H5 y5)) λ_ s6 ⟨σ6, H6, I6, q6⟩ => ?_);refine wpAny_passesOwn hp (fR (hb _ s6 σ6 H6 _ I6 q6) λf s7 q7 => ?_)
    have again : ∀ {σ7 : St} {H7 : Hp}, Inv X (pins ++ BM fp s5.heap) σ7 H7 s7 → N σ7 H7 → ∃ m, m < n /\ ∃ i σ' H', Inv X pins σ' H' s7 /\ tn i s7.heap /\ (∀ b ∈ fp, H' b = none) /\ W i m σ' H' := λ{σ7 H7} I7 n7 => by
      obtain ⟨m', hm, w7⟩ := hN σ7 H7 n7;refine ⟨m', hm, i + 1, σ7, H7, I7.unpinned, T.keep _ _ _ st5 λb hb o e => (I7.pin (b, o) (bG _ (bG _ (tw hb e)))).1, λb hb => ?_, w7⟩;obtain ⟨o, e, d⟩ := T.obj _ _ st5 b hb;exact (I7.pin (b, o) (bG _ (bG _ (tw hb e)))).2.1
    cases f with
    | next => obtain ⟨σ7, H7, I7, n7⟩ := q7; exact again I7 n7
    | cont => obtain ⟨σ7, H7, I7, n7⟩ := q7; exact again I7 n7
    | brk => obtain ⟨σ7, H7, I7, q7⟩ := q7; exact ⟨σ7, H7, I7.unpinned, q7⟩
    | ret v => obtain ⟨x7, σ7, H7, I7, r7, q7⟩ := q7; exact ⟨x7, σ7, H7, I7.unpinned, r7, q7⟩
end
theorem fW {K:FG9} {a:Addr} {xs:List V} {g:TG} {tb:TS} {D:Ends} {σ:St} {H:Hp} (Pv:Nat->St->Hp->Prop) (h0:Pv 0 σ H) (hl:∀i σ H,i<=xs.length->Pv i σ H->bS K H a xs)
  (hs:∀i x σ H,xs[i]?=some x->Pv i σ H->g x σ H λσ2 H2=>tb { D with nx:=Pv (i+1),ct:=Pv (i+1),bk:=D.nx } σ2 H2) (hd:∀σ H,Pv xs.length σ H->D.nx σ H) :
  ∃W:Nat->Nat->St->Hp->Prop,(∃m,W 0 m σ H)/\∀i m σ H,W i m σ H →
   ((MW K a).stop i H/\D.nx σ H)\/((MW K a).go i H/\∃N:St->Hp->Prop,(∀σ' H',N σ' H'->∃m',m' < m/\W (i+1) m' σ' H')/\∀x H',(MW K a).yld i H x H'->g x σ H' λσ2 H2=>tb { D with nx:=N,ct:=N,bk:=D.nx } σ2 H2):=by
 refine ⟨λi m σ H=>m=xs.length - i/\i<=xs.length/\Pv i σ H,⟨xs.length,by simp,bx _,h0⟩,?_⟩;rintro i m σ H ⟨rfl,hi,p⟩;have q:=hl i σ H hi p;by_cases hlt:i < xs.length
 ·refine .inr ⟨⟨xs,xs[i],q,by simp [hlt]⟩,Pv (i+1),λσ' H' p'=>⟨xs.length - (i+1),by lia,rfl,hlt,p'⟩,λx H' y=>?_⟩;obtain ⟨e,y⟩:=y;subst e;exact hs i x σ _ (y xs q) p
 ·have e:i=xs.length:=by lia
  subst e;exact .inl ⟨⟨xs,q,ak _⟩,hd σ H p⟩
theorem EX {K:FG9} {a:Addr} {xs:List V} {g:TG} {tb:TS} {D:Ends} {σ:St} {H:Hp} (Pv:Nat->St->Hp->Prop) (h0:Pv 0 σ H) (hl:∀i σ H,i<=xs.length->Pv i σ H->lA K H a xs)
  (hs:∀i x σ H,xs[i]?=some x->Pv i σ H->g x σ H λσ2 H2=>tb { D with nx:=Pv (i+1),ct:=Pv (i+1),bk:=D.nx } σ2 H2) (hd:∀σ H,Pv xs.length σ H->D.nx σ H) :
  ∃W:Nat->Nat->St->Hp->Prop,(∃m,W 0 m σ H)/\∀i m σ H,W i m σ H →
   ((OE K a).stop i H/\D.nx σ H)\/((OE K a).go i H/\∃N:St->Hp->Prop,(∀σ' H',N σ' H'->∃m',m' < m/\W (i+1) m' σ' H')/\∀x H',(OE K a).yld i H x H'->g x σ H' λσ2 H2=>tb { D with nx:=N,ct:=N,bk:=D.nx } σ2 H2):=by
 refine ⟨λi m σ H=>m=xs.length - i/\i<=xs.length/\Pv i σ H,⟨xs.length,by simp,bx _,h0⟩,?_⟩;rintro i m σ H ⟨rfl,hi,p⟩;have q:=hl i σ H hi p;by_cases hlt:i < xs.length
 ·refine .inr ⟨⟨xs,xs[i],q,by simp [hlt]⟩,Pv (i+1),λσ' H' p'=>⟨xs.length - (i+1),by lia,rfl,hlt,p'⟩,λx H' y=>?_⟩;obtain ⟨e,y⟩:=y;subst e;exact hs i x σ _ (y xs q) p
 ·have e:i=xs.length:=by lia
  subst e;exact .inl ⟨⟨xs,q,ak _⟩,hd σ H p⟩
theorem DM {lo:Int} {n:Nat} {g:TG} {tb:TS} {D:Ends} {σ:St} {H:Hp} (Pv:Nat->St->Hp->Prop) (h0:Pv 0 σ H)
  (hs:∀i σ H,i < n->Pv i σ H->g (.int (lo+i)) σ H λσ2 H2=>tb { D with nx:=Pv (i+1),ct:=Pv (i+1),bk:=D.nx } σ2 H2) (hd:∀σ H,Pv n σ H->D.nx σ H) :
  ∃W:Nat->Nat->St->Hp->Prop,(∃m,W 0 m σ H)/\∀i m σ H,W i m σ H →
   ((Hw lo n).stop i H/\D.nx σ H)\/((Hw lo n).go i H/\∃N:St->Hp->Prop,(∀σ' H',N σ' H'->∃m',m' < m/\W (i+1) m' σ' H')/\∀x H',(Hw lo n).yld i H x H'->g x σ H' λσ2 H2=>tb { D with nx:=N,ct:=N,bk:=D.nx } σ2 H2):=by
 refine ⟨λi m σ H=>m=n - i/\i<=n/\Pv i σ H,⟨n,by simp,bx _,h0⟩,?_⟩;rintro i m σ H ⟨rfl,hi,p⟩;by_cases hlt:i < n
 ·refine .inr ⟨hlt,Pv (i+1),λσ' H' p'=>⟨n - (i+1),by lia,rfl,hlt,p'⟩,λx H' y=>?_⟩;obtain ⟨e,y⟩:=y;subst e y;exact hs i σ _ hlt p
 ·have e:i=n:=by lia
  subst e;exact .inl ⟨ak _,hd σ H p⟩
abbrev R2:=V->V->Hp->VK->Prop
def Aa (X:Cx) (f:Value->Value->Sem Value) (r:R2):Prop :=
 ∀(pins:List (Addr×Obj)) (s:Shared) (σ:St) (H:Hp) (x y:V) (v u:Value) (Q:VK),Inv X pins σ H s->RelV x v->RelV y u->r x y H Q →
  wpAny (model X.prog X.w) X.A (f v u) (EP X pins σ Q) X.xe s
def S7 (X:Cx) (f:Value->Sem Value) (r:V->Hp->VK->Prop):Prop :=
 ∀(pins:List (Addr×Obj)) (s:Shared) (σ:St) (H:Hp) (x:V) (v:Value) (Q:VK),Inv X pins σ H s->RelV x v->r x H Q →
  wpAny (model X.prog X.w) X.A (f v) (EP X pins σ Q) X.xe s
def rz (X:Cx) (f:Value) (r:List V->Hp->VK->Prop):Prop :=
 ∀(pins:List (Addr×Obj)) (s:Shared) (σ:St) (H:Hp) (xs:List V) (us:List Value) (Q:VK),Inv X pins σ H s->cU xs us->r xs H Q →
  wpAny (model X.prog X.w) X.A (call f us) (EP X pins σ Q) X.xe s
def Rb (r:R2) (ta tb:TE):TE:=λσ H Q=>ta σ H λx H1=>tb σ H1 λy H2=>r x y H2 Q
def Su (r:V->Hp->VK->Prop) (ta:TE):TE:=λσ H Q=>ta σ H λx H1=>r x H1 Q
def rI (C:Int->Int->Prop) (g:Int->Int->V):R2:=λx y H Q=>∃i j,x=.int i/\y=.int j/\C i j/\Q (g i j) H
def NW (g:Int->Int->V):R2:=λx y H Q=>∃i j,x=.int i/\y=.int j/\Q (g i j) H
def rU (g:Int->V):V->Hp->VK->Prop:=λx H Q=>∃i,x=.int i/\Q (g i) H
section
variable {X:Cx} {a b c:Expr} {ta tb tc:TE} {pos:Pos}
theorem QD (ha:PE X a ta) (hb:PE X b tb) {pins:List (Addr×Obj)} {s:Shared} {σ:St} {H:Hp} {R:V->V->Hp->Prop} (I:Inv X pins σ H s)
  (h:ta σ H λx H1=>tb σ H1 λy H2=>R x y H2) {Q:Value->Shared->Prop} {f:Value->Value->Sem Value}
  (hf:∀v u s2 x y H2,Inv X pins σ H2 s2->RelV x v->RelV y u->R x y H2->wpAny (model X.prog X.w) X.A (f v u) Q X.xe s2) :
  wpAny (model X.prog X.w) X.A (eval a X.env) (λv s₁=>wpAny (model X.prog X.w) X.A (eval b X.env) (λu s₂=>wpAny (model X.prog X.w) X.A (f v u) Q X.xe s₂) X.xe s₁) X.xe s:=by
 refine fR (ha pins s σ H _ I h) λv s1 ⟨x,H1,I1,r1,q1⟩=>?_
 refine fR (hb pins s1 σ H1 _ I1 q1) λu s2 ⟨y,H2,I2,r2,q2⟩=>?_
 exact hf v u s2 x y H2 I2 r1 r2 q2
theorem bL {op:Operator} {r:R2} (ho:Aa X (binaryOp op) r) (ha:PE X a ta) (hb:PE X b tb):PE X (.BinOp a op b pos) (Rb r ta tb):=by
 intro pins s σ H Q I h;exact wpAny_BinOp (QD ha hb I h λv u s2 x y H2 I2 rx ry q=>ho pins s2 σ H2 x y v u Q I2 rx ry q)
theorem Aj {op:UnaryOp} {r:V->Hp->VK->Prop} (ho:S7 X (unaryOp op) r) (ha:PE X a ta):PE X (.UnaryOp op a pos) (Su r ta):=by
 intro pins s σ H Q I h;exact UnaryOp_ (fR (ha pins s σ H _ I h) λv s1 ⟨x,H1,I1,r1,q1⟩=>ho pins s1 σ H1 x v Q I1 r1 q1)
theorem Sv {f:Value->Value->Sem Value} {C:Int->Int->Prop} {g:Int->Int->Int}
  (rule:∀(i j:Int) (t u:Tok) (s:Shared) (Q:Value->Shared->Prop) (E:Value->Shared->Prop),C i j->Q (.int (g i j) s.toks) { s with toks:=s.toks+1 }->wpAny (model X.prog X.w) X.A (f (.int i t) (.int j u)) Q E s) :
  Aa X f (rI C λi j=>.int (g i j)):=by
 intro pins s σ H x y v u Q I rx ry h;obtain ⟨i,j,rfl,rfl,hc,q⟩:=h;obtain ⟨t,rfl⟩:=rx;obtain ⟨t',rfl⟩:=ry;exact rule i j t t' s _ _ hc ⟨.int (g i j),H,I.tok _,⟨_,rfl⟩,q⟩
theorem RO {f:Value->Value->Sem Value} {g:Int->Int->Int}
  (rule:∀(i j:Int) (t u:Tok) (s:Shared) (Q:Value->Shared->Prop) (E:Value->Shared->Prop),Q (.int (g i j) s.toks) { s with toks:=s.toks+1 }->wpAny (model X.prog X.w) X.A (f (.int i t) (.int j u)) Q E s) :
  Aa X f (NW λi j=>.int (g i j)):=by
 intro pins s σ H x y v u Q I rx ry h;obtain ⟨i,j,rfl,rfl,q⟩:=h;obtain ⟨t,rfl⟩:=rx;obtain ⟨t',rfl⟩:=ry;exact rule i j t t' s _ _ ⟨.int (g i j),H,I.tok _,⟨_,rfl⟩,q⟩
theorem Oc {f:Value->Value->Sem Value} {g:Int->Int->Bool}
  (rule:∀(i j:Int) (t u:Tok) (s:Shared) (Q:Value->Shared->Prop) (E:Value->Shared->Prop),Q (.bool (g i j)) s->wpAny (model X.prog X.w) X.A (f (.int i t) (.int j u)) Q E s) :
  Aa X f (NW λi j=>.bl (g i j)):=by
 intro pins s σ H x y v u Q I rx ry h;obtain ⟨i,j,rfl,rfl,q⟩:=h;obtain ⟨t,rfl⟩:=rx;obtain ⟨t',rfl⟩:=ry;exact rule i j t t' s _ _ ⟨.bl (g i j),H,I,rfl,q⟩
def QN (i j:Int):Prop:=(-(2^64) < i/\i < 2^64)\/(-(2^64) < j/\j < 2^64)
theorem QN.ok {i j:Int} (h:QN i j):IntMulOk i j:=by
 rcases h with ⟨h1,h2⟩ | ⟨h1,h2⟩
 ·exact .of_left (intBits_le_64 h1 h2)
 ·exact .of_right (intBits_le_64 h1 h2)
theorem eF:Aa X (binaryOp .Add) (NW λi j=>.int (i+j)):=RO λ_ _ _ _ _ _ _ q=>add_int q
theorem lU:Aa X (binaryOp .Sub) (NW λi j=>.int (i - j)):=RO λ_ _ _ _ _ _ _ q=>sub_int q
theorem rE:Aa X (binaryOp .Mod) (rI (λ_ j=>0 < j) λi j=>.int (i % j)):=Sv λi j _ _ _ _ _ hc q=>by
 have h1:(0:Int) < j:=hc;exact mod_int' (by lia) (by rw[Int.fmod_eq_emod_of_nonneg i (by lia)];exact q)
theorem Ob:Aa X (binaryOp .Mod) (rI (λ_ j=>j≠0) λi j=>.int (i.fmod j)):=Sv λ_ _ _ _ _ _ _ hc q=>mod_int' hc q
theorem unI {f:Value->Sem Value} {g:Int->Int}
  (rule:∀(i:Int) (t:Tok) (s:Shared) (Q:Value->Shared->Prop) (E:Value->Shared->Prop),Q (.int (g i) s.toks) { s with toks:=s.toks+1 }->wpAny (model X.prog X.w) X.A (f (.int i t)) Q E s) :
  S7 X f (rU λi=>.int (g i)):=by
 intro pins s σ H x v Q I rx h;obtain ⟨i,rfl,q⟩:=h;obtain ⟨t,rfl⟩:=rx;exact rule i t s _ _ ⟨.int (g i),H,I.tok _,⟨_,rfl⟩,q⟩
theorem uQ:S7 X (unaryOp .USub) (rU λi=>.int (-i)):=unI λ_ _ _ _ _ q=>neg_int q
end
def Rv:V->V->Bool
 | .non,.non=>true | .non,.int _=>true | .int _,.non=>true | .non,.bl _=>true | .bl _,.non=>true | .non,.str _=>true | .str _,.non=>true
 | .int _,.int _=>true | .bl _,.bl _=>true | .str _,.str _=>true | .byt _,.byt _=>true
 | .int _,.str _=>true | .str _,.int _=>true | .bl _,.str _=>true | .str _,.bl _=>true
 | _,_=>false
def SX:R2:=λx y H Q=>Rv x y=true/\Q (.bl (decide (x=y))) H
def rNe:R2:=λx y H Q=>Rv x y=true/\Q (.bl (!decide (x=y))) H
theorem JA {i j:Int}:decide (V.int i=V.int j)=(i == j):=by
 rw[o5];simp
theorem Mz {i j:Bool}:decide (V.bl i=V.bl j)=(i == j):=by
 rw[o5];simp
theorem Jz {i j:Str}:decide (V.str i=V.str j)=(i == j):=by
 rw[o5];simp
theorem JB {i j:Array UInt8}:decide (V.byt i=V.byt j)=(i.toList == j.toList):=by
 rw[o5];cases i;cases j;simp
section
variable {X:Cx} {a b c:Expr} {ta tb tc:TE} {pos:Pos}
theorem dy {pins:List (Addr×Obj)} {σ:St} {H:Hp} {s:Shared} {Q:VK} {k k':Bool} (I:Inv X pins σ H s) (q:Q (.bl k) H) (e:k=k'):EP X pins σ Q (.bool k') s:=by
 subst e;exact ⟨.bl k,H,I,rfl,q⟩
theorem fq:Aa X (compareOp .Eq) SX:=by
 intro pins s σ H x y v u Q I rx ry h;obtain ⟨hs,q⟩:=h;cases x with
 | non =>
  cases rx;cases y with
  | non=>cases ry;exact PySem.EqNone.eq_none_none (dy I q (by simp))
  | bl j=>cases ry;exact PySem.EqNone.eq_none_bool (dy I q (by simp))
  | int j=>obtain ⟨t',rfl⟩:=ry;exact PySem.EqNone.eq_none_int (dy I q (by simp))
  | str j=>obtain ⟨t',rfl⟩:=ry;exact PySem.EqNone.eq_none_str (dy I q (by simp))
  | _=>exact absurd (show false=true from hs) bg
 | bl i =>
  cases rx;cases y with
  | non=>cases ry;exact PySem.EqNone.eq_bool_none (dy I q (by simp))
  | bl j=>cases ry;exact eq_bool (dy I q Mz)
  | str j=>obtain ⟨t',rfl⟩:=ry;exact PySem.EqMixed.eq_bool_str (dy I q (by simp))
  | _=>exact absurd (show false=true from hs) bg
 | int i =>
  obtain ⟨t,rfl⟩:=rx;cases y with
  | non=>cases ry;exact PySem.EqNone.eq_int_none (dy I q (by simp))
  | int j=>obtain ⟨t',rfl⟩:=ry;exact eq_int (dy I q JA)
  | str j=>obtain ⟨t',rfl⟩:=ry;exact PySem.EqMixed.eq_int_str (dy I q (by simp))
  | _=>exact absurd (show false=true from hs) bg
 | str i =>
  obtain ⟨t,rfl⟩:=rx;cases y with
  | non=>cases ry;exact PySem.EqNone.eq_str_none (dy I q (by simp))
  | bl j=>cases ry;exact PySem.EqMixed.eq_str_bool (dy I q (by simp))
  | int j=>obtain ⟨t',rfl⟩:=ry;exact PySem.EqMixed.eq_str_int (dy I q (by simp))
  | str j=>obtain ⟨t',rfl⟩:=ry;exact eq_str (dy I q Jz)
  | _=>exact absurd (show false=true from hs) bg
 | byt i =>
  obtain ⟨t,rfl⟩:=rx;cases y with
  | byt j=>obtain ⟨t',rfl⟩:=ry;exact PySem.W.eq_bytes (dy I q JB)
  | _=>exact absurd (show false=true from hs) bg
 | _=>cases y <;> exact absurd (show false=true from hs) bg
theorem vf:Aa X (compareOp .NotEq) rNe:=by
 intro pins s σ H x y v u Q I rx ry h;obtain ⟨hs,q⟩:=h;cases x with
 | non =>
  cases rx;cases y with
  | non=>cases ry;exact PySem.EqNone.ne_none_none (dy I q (by simp))
  | bl j=>cases ry;exact PySem.EqNone.ne_none_bool (dy I q (by simp))
  | int j=>obtain ⟨t',rfl⟩:=ry;exact PySem.EqNone.ne_none_int (dy I q (by simp))
  | str j=>obtain ⟨t',rfl⟩:=ry;exact PySem.EqNone.ne_none_str (dy I q (by simp))
  | _=>exact absurd (show false=true from hs) bg
 | bl i =>
  cases rx;cases y with
  | non=>cases ry;exact PySem.EqNone.ne_bool_none (dy I q (by simp))
  | bl j=>cases ry;exact ne_bool (dy I q (congrArg not Mz))
  | str j=>obtain ⟨t',rfl⟩:=ry;exact PySem.EqMixed.ne_bool_str (dy I q (by simp))
  | _=>exact absurd (show false=true from hs) bg
 | int i =>
  obtain ⟨t,rfl⟩:=rx;cases y with
  | non=>cases ry;exact PySem.EqNone.ne_int_none (dy I q (by simp))
  | int j=>obtain ⟨t',rfl⟩:=ry;exact ne_int (dy I q (congrArg not JA))
  | str j=>obtain ⟨t',rfl⟩:=ry;exact PySem.EqMixed.ne_int_str (dy I q (by simp))
  | _=>exact absurd (show false=true from hs) bg
 | str i =>
  obtain ⟨t,rfl⟩:=rx;cases y with
  | non=>cases ry;exact PySem.EqNone.ne_str_none (dy I q (by simp))
  | bl j=>cases ry;exact PySem.EqMixed.ne_str_bool (dy I q (by simp))
  | int j=>obtain ⟨t',rfl⟩:=ry;exact PySem.EqMixed.ne_str_int (dy I q (by simp))
  | str j=>obtain ⟨t',rfl⟩:=ry;exact ne_str (dy I q (congrArg not Jz))
  | _=>exact absurd (show false=true from hs) bg
 | byt i =>
  obtain ⟨t,rfl⟩:=rx;cases y with
  | byt j=>obtain ⟨t',rfl⟩:=ry;exact PySem.W.ne_bytes (dy I q (congrArg not JB))
  | _=>exact absurd (show false=true from hs) bg
 | _=>cases y <;> exact absurd (show false=true from hs) bg
theorem xm:Aa X (compareOp .Lt) (NW λi j=>.bl (decide (i < j))):=Oc λ_ _ _ _ _ _ _ q=>lt_int q
theorem LK:Aa X (compareOp .LtE) (NW λi j=>.bl (decide (i<=j))):=Oc λ_ _ _ _ _ _ _ q=>le_int q
theorem xn:Aa X (compareOp .Gt) (NW λi j=>.bl (decide (j < i))):=Oc λ_ _ _ _ _ _ _ q=>gt_int q
theorem DF:Aa X (compareOp .GtE) (NW λi j=>.bl (decide (j<=i))):=Oc λ_ _ _ _ _ _ _ q=>ge_int q
theorem Qd:Aa X (compareOp .Is) (λx y H Q=>y=.non/\Q (.bl (decide (x=.non))) H):=by
 intro pins s σ H x y v u Q I rx ry h;obtain ⟨rfl,q⟩:=h;cases ry;refine is_none_gen (dy I q ?_)
 cases x <;> first
  | (cases rx;rfl)
  | (obtain ⟨t,rfl⟩:=rx;rfl)
theorem Jh:Aa X (compareOp .IsNot) (λx y H Q=>y=.non/\Q (.bl (!decide (x=.non))) H):=by
 intro pins s σ H x y v u Q I rx ry h;obtain ⟨rfl,q⟩:=h;cases ry;refine isnot_none_gen (dy I q ?_)
 cases x <;> first
  | (cases rx;rfl)
  | (obtain ⟨t,rfl⟩:=rx;rfl)
theorem bK (b:Expr) {op:CmpOp} (h:op≠.In:=by decide) (h2:op≠.NotIn:=by decide):behindInMarks op b=false:=by
 have e1:(op == CmpOp.In)=false:=by cases op <;> first | rfl | exact absurd rfl h
 have e2:(op == CmpOp.NotIn)=false:=by cases op <;> first | rfl | exact absurd rfl h2
 cases b <;> simp [behindInMarks,e1,e2]
theorem jC {op:CmpOp} {r:R2} (ho:Aa X (compareOp op) r) (ha:PE X a ta) (hb:PE X b tb) (hm:behindInMarks op b=false):PE X (.Compare a [op] [b] pos) (Rb r ta tb):=by
 intro pins s σ H Q I h;exact wpAny_Compare1 (QD ha hb I h λv u s2 x y H2 I2 rx ry q=>ho pins s2 σ H2 x y v u Q I2 rx ry q) hm
def K6 (t:TE):TT:=λσ H Q=>t σ H λx H'=>∃k,x=.bl k/\Q k H'
theorem bC {op:CmpOp} {r:R2} (ho:Aa X (compareOp op) r) (ha:PE X a ta) (hb:PE X b tb) (hm:behindInMarks op b=false):PT X (.Compare a [op] [b] pos) (K6 (Rb r ta tb)):=by
 intro pins s σ H Q I h
 refine wpAny_isTrue_Compare1 (fR (ha pins s σ H _ I h) λv s1 ⟨x,H1,I1,r1,q1⟩=>fR (hb pins s1 σ H1 _ I1 q1) λu s2 ⟨y,H2,I2,r2,q2⟩ =>
  fR (ho pins s2 σ H2 x y v u _ I2 r1 r2 q2) λc s3 ⟨z,H3,I3,r3,k,e,q3⟩=>?_) hm
 subst e;cases r3;exact wpAny_truthy_bool ⟨H3,I3,q3⟩
def K7 (r r':R2) (ta tb tc:TE):TE:=λσ H Q=>ta σ H λx H1=>tb σ H1 λy H2=>r x y H2 λz H3=>∃k,z=.bl k /\
 (if k=true then tc σ H3 λw' H4=>r' y w' H4 Q else Q (.bl false) H3)
theorem LA {op op':CmpOp} {r r':R2} (ho:Aa X (compareOp op) r) (ho':Aa X (compareOp op') r') (ha:PE X a ta) (hb:PE X b tb) (hc:PE X c tc)
  (hm:lastMarks [op,op'] [b,c]=false:=by with_unfolding_all rfl):PT X (.Compare a [op,op'] [b,c] pos) (K6 (K7 r r' ta tb tc)):=by
 intro pins s σ H Q I h
 refine isTrue_chain (fR (ha pins s σ H _ I h) λv s1 ⟨x,H1,I1,r1,q1⟩=>test_link (fR (hb pins s1 σ H1 _ I1 q1) λu s2 ⟨y,H2,I2,r2,q2⟩ =>
  fR (ho pins s2 σ H2 x y v u _ I2 r1 r2 q2) λd s3 ⟨z,H3,I3,r3,k,e,q3⟩=>?_)) hm
 subst e;cases r3;refine wpAny_truthy_bool ?_;cases k with
 | false =>
  obtain ⟨k',e',q'⟩:=q3;cases e';exact ite_ff ⟨H3,I3,q'⟩
 | true =>
  refine ite_tt (test_last (fR (hc pins s3 σ H3 _ I3 q3) λw' s4 ⟨z',H4,I4,r4,q4⟩=>fR (ho' pins s4 σ H4 y z' u w' _ I4 r2 r4 q4) λd' s5 ⟨z2,H5,I5,r5,k2,e2,q5⟩=>?_));subst e2;cases r5;exact wpAny_truthy_bool ⟨H5,I5,q5⟩
theorem Cj:(sizeLine:Nat) < 2^63:=by rw[sizeLine_eq];decide
theorem vals1 {x:V} {us:List Value} (r:cU [x] us):∃u,us=[u]/\RelV x u:=by
 cases r with
 | cons r1 r2=>cases r2;exact ⟨_,rfl,r1⟩
theorem vals2 {x y:V} {us:List Value} (r:cU [x,y] us):∃u w',us=[u,w']/\RelV x u/\RelV y w':=by
 cases r with
 | cons r1 r2 =>
  cases r2 with
  | cons r3 r4=>cases r4;exact ⟨_,_,rfl,r1,r3⟩
theorem yT:rz X (.builtin "abs") (λxs H Q=>∃i,xs=[.int i]/\Q (.int (if i < 0 then -i else i)) H):=by
 intro pins s σ H xs us Q I r h;obtain ⟨i,rfl,q⟩:=h;obtain ⟨u,rfl,t,rfl⟩:=vals1 r;exact call_abs_int λu tk=>⟨.int (if i < 0 then -i else i),H,I.tok _,⟨_,rfl⟩,q⟩
theorem wL (hc:X.calm=true):rz X (.builtin "min") (λxs H Q=>∃i j,xs=[.int i,.int j]/\Q (.int (if j < i then j else i)) H):=by
 intro pins s σ H xs us Q I r h;obtain ⟨i,j,rfl,q⟩:=h;obtain ⟨u,w',rfl,⟨t,rfl⟩,⟨t',rfl⟩⟩:=vals2 r;refine min_two_ints (I.ok.hd hc) λh' tk k=>⟨_,H,I.kept k,?_,q⟩
 by_cases hj:j < i
 ·rw[if_pos hj,if_pos hj];exact ⟨_,rfl⟩
 ·rw[if_neg hj,if_neg hj];exact ⟨_,rfl⟩
end
structure IG (h:Heap) (x dx C:Addr) (mA:Str->Option Value):Prop where
 obj:h.get? x=some (PySem.W.instObj C dx)
 ns:h.Ns1 dx mA
 ne:dx≠x
theorem Kr {h:Heap} {dx:Addr} {mA:Str->Option Value} (n:h.Ns1 dx mA):∃od,h.get? dx=some od/\∀name,PySem.W.lookIn name od=some (mA name):=by
 obtain ⟨o,es,ep,ho,hd,hk,_,hm⟩:=n;refine ⟨o,ho,λname=>?_⟩;have e:=hm name;unfold nsFind findBy at e;rw[<- Array.find?_toList] at e;unfold PySem.W.lookIn;rw[hd]
 dsimp only
 split
 ·rename_i y q
  rw[q] at e;exact congrArg some e
 ·rename_i q
  rw[q] at e
  have a:es.toList.any (·.refKey)=false:=by
   rw[List.any_eq_false];intro y hy;obtain ⟨z,t,hkey⟩:=hk y (Array.mem_toList_iff.mp hy);simp [DictEntry.refKey,hkey]
  have a':¬es.toList.any (·.refKey)=true:=by rw[a];exact bg
  rw[if_neg a'];exact congrArg some e
theorem IG.look {h:Heap} {x dx C:Addr} {mA:Str->Option Value} (I:IG h x dx C mA):∃od,PySem.W.InstAt h x (PySem.W.instObj C dx) C (some od)/\∀name,PySem.W.lookIn name od=some (mA name) :=
 let ⟨od,ho,hl⟩:=Kr I.ns
 ⟨od,⟨I.obj,rfl,rfl,ho⟩,hl⟩
section
variable {prog:Program} {w:World} {A:Around} {E:Value->Shared->Prop} {s:Shared} {K:FG9} {x dx C f:Addr} {mA:Str->Option Value} {name:Str} {v:Value}
theorem get_map {expr:Bool} {Q:Value->Shared->Prop} (X:K.In s.heap) (I:IG s.heap x dx C mA) (hg:PySem.W.plainGet K C name=true) (hh:PySem.W.hasDictIn K C=true)
  (ha:PySem.W.findIn K (.ref C) name=some none) (hv:mA name=some v) (hv':PySem.W.handedIn v=true) (h:Q v { s with toks:=s.toks+1 }) :
  wpAny (model prog w) A (getAttr (.ref x) name expr) Q E s:=by
 obtain ⟨od,J,hl⟩:=I.look;exact PySem.W.get_value X J (Fs hg).1 (PySem.W.findObj_own hh ha rfl (by rw[hl,hv])) hv' h
theorem Mg {pl:Sem Bool} {Q:Value×List Value->Shared->Prop} (X:K.In s.heap) (I:IG s.heap x dx C mA) (hg:PySem.W.plainGet K C name=true)
  (hf:PySem.W.findIn K (.ref C) name=some (some (.ref f))) (ht:PySem.W.isFn K (.ref f)=true) (hv:mA name=none) (h:Q (.ref f,[.ref x]) s) :
  wpAny (model prog w) A (getMethod (.ref x) name pl) Q E s:=by
 obtain ⟨od,J,hl⟩:=I.look;exact PySem.W.method_fn X J (Fs hg).1 (Fs hg).2 hf (beq_iff_eq.mp ht) (by show (PySem.W.lookIn name od).map (·.isSome)=some false;rw[hl,hv];rfl) h
theorem Nr {ns:List Str} {Q:Unit->Shared->Prop} (X:K.In s.heap) (I:IG s.heap x dx C mA)
  (hs:PySem.W.findIn K (.ref C) "__setattr__"=some (some (.builtin "object.__setattr__"))) (hp:PySem.W.plainOver K C=true) (ht:PySem.W.takerIn K C name=some none) (hh:PySem.W.hasDictIn K C=true)
  (hw:PySem.Within mA ns) (hsz:ns.length<=sizeLine)
  (h:∀h',IG h' x dx C (λy=>if y=name then some v else mA y)->Heap.SameBut dx s.heap h'->Q () { s with heap:=h',toks:=s.toks+2 }) :
  wpAny (model prog w) A (setAttr (.ref x) name v) Q E s:=by
 obtain ⟨od,J,hl⟩:=I.look;refine PySem.W.set_plain X J hs (PySem.W.osa_open (s:={ s with toks:=s.toks+1 }) (r:=none) X J hp ht λb=>?_);obtain ⟨cd,hc,hd'⟩:=PySem.W.any_some hh;have hx:s.heap.get? x=some ⟨.ref C,some dx,.plain,#[]⟩:=I.obj;refine wpAny_bind (wpAny_pure (wpAny_bind (wpAny_bind (wpAny_loadPart hx (wpAny_bind (PySem.W.Looks.here (s:={ s with toks:=s.toks+1 }) (PySem.W.looks_clsIn X hc) ?_))))));rw[hd'];refine wpAny_pure (a:=some dx) (wpAny_bind (wpAny_pure (wpAny_bind ?_)));refine wpAny_nsSet1 (s:={ s with toks:=s.toks+1 }) I.ns λh' hn2 hs2=>?_
 obtain ⟨oD,esD,epD,hoD,hdD,hcD⟩:=hn2.count (PySem.Within.cons name v hw);refine wpAny_bind (wpAny_lookBehind hoD (by rw[hdD];exact pastItsLine_dict (ai hcD (by rw[bR];lia))) ?_);exact wpAny_pure (h _ ⟨(hs2.2 _ (Ne.symm I.ne)).trans I.obj,hn2,I.ne⟩ hs2)
theorem LX {R:Result->Shared->Prop} {vs:List Value} {kw:List (Str×Value)} (X:K.In s.heap) (hm:PySem.W.makesIn K C=true)
  (hi:PySem.W.findIn K (.ref C) "__init__"=some (some (.ref f))) (hf:PySem.W.typeIn K (.ref f)=some (.type "function"))
  (h:codeAny (model prog w) (A.under (.builtin "type.__call__" ⟨.ref C :: vs,kw⟩)) (.call (.ref f) ⟨.ref (s.heap.objs.size+1) :: vs,kw⟩) (PySem.W.InitBack (s.heap.objs.size+1) R)
   { s with heap:=(s.heap.push PySem.W.emptyDict).push (PySem.W.instObj C s.heap.objs.size) }) :
  codeAny (model prog w) A (.call (.ref C) ⟨vs,kw⟩) R s:=by
 obtain ⟨hh,g,d,t,os⟩:=s;exact PySem.W.make_core (PySem.W.makes_of X hm) (PySem.W.looks_findIn X hi) (λself=>PySem.W.bind_fn X self hf) (.inl rfl) h
end
def cz (f:Str) (v:V):List (Str×V)->List (Str×V)
 | []=>[(f,v)]
 | (g,x) :: r=>if g=f then (g,v) :: r else (g,x) :: cz f v r
theorem bM (f g:Str) (v:V):∀fs:List (Str×V),(cz f v fs).lookup g=if g=f then some v else fs.lookup g
 | []=>by
  show List.lookup g [(f,v)]=_
  by_cases h:g=f
  ·have hb:(g == f)=true:=beq_iff_eq.mpr h;simp only[List.lookup,hb,if_pos h]
  ·have hb:(g == f)=false:=beq_eq_false_iff_ne.mpr h;simp only[List.lookup,hb,if_neg h]
 | (k,x) :: r=>by
  have ih:=bM f g v r;rw[show cz f v ((k,x) :: r)=(if k=f then (k,v) :: r else (k,x) :: cz f v r) from rfl];by_cases hk:k=f
  ·rw[if_pos hk];by_cases h:g=k
   ·have hb:(g == k)=true:=beq_iff_eq.mpr h;simp only[List.lookup,hb,if_pos (h.trans hk)]
   ·have hb:(g == k)=false:=beq_eq_false_iff_ne.mpr h;simp only[List.lookup,hb,if_neg (λe:g=f=>h (e.trans hk.symm))]
  ·rw[if_neg hk];by_cases h:g=k
   ·have hb:(g == k)=true:=beq_iff_eq.mpr h;simp only[List.lookup,hb,if_neg (λe:g=f=>hk (h.symm.trans e))]
   ·have hb:(g == k)=false:=beq_eq_false_iff_ne.mpr h;simp only[List.lookup,hb];exact ih
theorem zT (f:Str) (v:V):∀fs:List (Str×V),f∈(cz f v fs).map (·.1)/\∀g,g∈fs.map (·.1)->g∈(cz f v fs).map (·.1)
 | []=>⟨by simp [cz],λg h=>by simp at h⟩
 | (k,x) :: r=>by
  obtain ⟨i1,i2⟩:=zT f v r;rw[show cz f v ((k,x) :: r)=(if k=f then (k,v) :: r else (k,x) :: cz f v r) from rfl];by_cases hk:k=f
  ·rw[if_pos hk];subst hk;exact ⟨by simp,λg h=>by simpa using h⟩
  ·rw[if_neg hk];refine ⟨?_,λg h=>?_⟩
   ·rw[iD];exact b8 _ i1
   ·rw[iD] at h ⊢;rcases aD.mp h with e | e
    ·exact aD.mpr (.inl e)
    ·exact b8 _ (i2 g e)
theorem An (f:Str) (v:V):∀fs:List (Str×V),(cz f v fs).length<=fs.length+1
 | []=>by simp [cz]
 | (k,x) :: r=>by
  have ih:=An f v r;rw[show cz f v ((k,x) :: r)=(if k=f then (k,v) :: r else (k,x) :: cz f v r) from rfl];by_cases hk:k=f
  ·rw[if_pos hk,bR,bR];lia
  ·rw[if_neg hk,bR,bR];lia
theorem De.some_of {v:V} {o:Option Value} (r:De (some v) o):∃u,o=some u/\RelV v u:=by
 cases o with
 | none=>exact (show False from r).elim
 | some u=>exact ⟨u,rfl,r⟩
theorem De.none_of {o:Option Value} (r:De none o):o=none:=by
 cases o with
 | none=>rfl
 | some u=>exact (show False from r).elim
theorem Ky {v:V} {u:Value} (r:RelV v u):PySem.W.handedIn u=true:=by
 cases v with
 | non=>cases (show u=Value.none from r);rfl
 | bl b=>cases (show u=Value.bool b from r);rfl
 | int i=>obtain ⟨t,e⟩:=(show ∃t,u=Value.int i t from r);cases e;rfl
 | str x=>obtain ⟨t,e⟩:=(show ∃t,u=Value.str x t from r);cases e;rfl
 | byt b=>obtain ⟨t,e⟩:=(show ∃t,u=Value.bytes b t from r);cases e;rfl
 | flt b=>obtain ⟨t,e⟩:=(show ∃t,u=Value.float b t from r);cases e;rfl
 | ref a=>cases (show u=Value.ref a from r);rfl
 | ty n=>cases (show u=Value.type n from r);rfl
section
variable {P:Program} {w:World} {H H':Hp} {h h':Heap} {a C dx:Addr} {fs fs':List (Str×V)}
theorem yK (hok:Bc P w H h) (e:H a=some (.ins C dx fs)):∃mA,IG h a dx C mA/\(∀f,De (fs.lookup f) (mA f))/\PySem.Within mA (fs.map (·.1))/\fs.length<=1000/\H dx=some (.own a):=by
 obtain ⟨d,z,ne,ob,mA,n,r,q⟩:=(show fZ P w H h a (.ins C dx fs) from hok a _ e);exact ⟨mA,⟨ob,n,ne⟩,r,q,z,d⟩
end
structure KR (K:FG9) (C:Addr):Prop where
 pg:PySem.W.plainGet K C Str.empty=true
 hd:PySem.W.hasDictIn K C=true
 po:PySem.W.plainOver K C=true
 sa:PySem.W.findIn K (.ref C) "__setattr__"=some (some (.builtin "object.__setattr__"))
theorem KR.get {K:FG9} {C:Addr} (c:KR K C) (f:Str):PySem.W.plainGet K C f=true:=c.pg
def kU (K:FG9) (C:Addr) (f:Str):Prop:=PySem.W.findIn K (.ref C) f=some none
theorem kU.taker {K:FG9} {C:Addr} {f:Str} (n:kU K C f):PySem.W.takerIn K C f=some none:=by
 unfold PySem.W.takerIn;rw[show PySem.W.findIn K (.ref C) f=some none from n];rfl
structure QI (K:FG9) (C:Addr) (m:Str) (f:Addr):Prop where
 at_:PySem.W.findIn K (.ref C) m=some (some (.ref f))
 fn:PySem.W.isFn K (.ref f)=true
 kp:PySem.W.keepIn K (.ref f)=true
section
variable {X:Cx} {pins:List (Addr×Obj)} {σ:St} {H:Hp} {s:Shared} {a C dx:Addr} {fs:List (Str×V)} {f:Str} {v:V} {A:Around} {E:Value->Shared->Prop}
theorem Iu {b:Bool} {Q:Value->Shared->Prop} (I:Inv X pins σ H s) (e:H a=some (.ins C dx fs)) (c:KR X.K C) (n:kU X.K C f) (l:fs.lookup f=some v)
  (h:∀u s',Inv X pins σ H s'->RelV v u->Q u s'):wpAny (model X.prog X.w) A (getAttr (.ref a) f b) Q E s:=by
 obtain ⟨mA,O,r,_,_,_⟩:=yK I.hok e;obtain ⟨u,hu,ru⟩:=De.some_of (v:=v) (o:=mA f) (by rw[<- l];exact r f);exact get_map I.kIn O (c.get f) c.hd n hu (Ky ru) (h u _ (I.tok _) ru)
theorem Ir {m:Str} {g:Addr} {pl:Sem Bool} {Q:Value×List Value->Shared->Prop} (I:Inv X pins σ H s) (e:H a=some (.ins C dx fs)) (c:KR X.K C) (k:QI X.K C m g) (l:fs.lookup m=none)
  (h:Q (.ref g,[.ref a]) s):wpAny (model X.prog X.w) A (getMethod (.ref a) m pl) Q E s:=by
 obtain ⟨mA,O,r,_,_,_⟩:=yK I.hok e;have hn:mA m=none:=De.none_of (by rw[<- l];exact r m);exact Mg I.kIn O (c.get m) k.at_ k.fn hn h
theorem HI {y:V} {u:Value} {Q:Unit->Shared->Prop} (I:Inv X pins σ H s) (e:H a=some (.ins C dx fs)) (c:KR X.K C) (n:kU X.K C f) (hl:fs.length < 1000) (ry:RelV y u)
  (h:∀s',Inv X pins σ (upd H a (.ins C dx (cz f y fs))) s'->Q () s'):wpAny (model X.prog X.w) A (setAttr (.ref a) f u) Q E s:=by
 obtain ⟨mA,O,r,wi,_,ho⟩:=yK I.hok e;have hz:(fs.map (·.1)).length<=sizeLine:=by rw[ao,sizeLine_eq];lia
 refine Nr I.kIn O c.sa c.po n.taker c.hd wi hz λh' O' sb=>h _ ?_
 have hd:∃o,h'.get? dx=some o:=let ⟨o,_,_,e',_⟩:=O'.ns;⟨o,e'⟩
 refine I.write (x:=a) (e:=dx) (by rw[e];exact True.intro) (.inr ho) (λb q hb z=>(sb.2 b hb).trans z) hd ?_;refine ⟨by rw[bH O.ne];exact ho,?_,O.ne,O'.obj,_,O'.ns,λg=>?_,λg hg=>?_⟩
 ·have:=An f y fs;lia
 ·show De ((cz f y fs).lookup g) (if g=f then some u else mA g)
  rw[bM];by_cases q:g=f
  ·rw[if_pos q,if_pos q];exact ry
  ·rw[if_neg q,if_neg q];exact r g
 ·by_cases q:g=f
  ·rw[q];exact (zT f y fs).1
  ·refine (zT f y fs).2 g (wi g λz=>hg ?_);show (if g=f then some u else mA g)=none
   rw[if_neg q];exact z
theorem Inv.made (I:Inv X pins σ H s):Inv X pins σ (upd (upd H s.heap.objs.size (.own (s.heap.objs.size+1))) (s.heap.objs.size+1) (.ins C s.heap.objs.size []))
  { s with heap:=(s.heap.push PySem.W.emptyDict).push (PySem.W.instObj C s.heap.objs.size) }:=by
 have e1:(s.heap.push PySem.W.emptyDict).get? s.heap.objs.size=some PySem.W.emptyDict:=Heap.get?_push_size s.heap rfl
 have e2:((s.heap.push PySem.W.emptyDict).push (PySem.W.instObj C s.heap.objs.size)).get? (s.heap.objs.size+1)=some (PySem.W.instObj C s.heap.objs.size):=by
  have:=Heap.get?_push_size (s.heap.push PySem.W.emptyDict) (o:=PySem.W.instObj C s.heap.objs.size) rfl;rwa [Heap.size_push] at this
 have e3:(s.heap.push PySem.W.emptyDict).Ns s.heap.objs.size (λ_=>none):=⟨PySem.W.emptyDict,#[],_,e1,rfl,(λe he=>absurd he (by simp)),λ_=>rfl⟩;have I1:=I.laid (a:=s.heap.objs.size) (o:=.own (s.heap.objs.size+1)) (h':=s.heap.push PySem.W.emptyDict) (t':=s.toks) (λb u q=>Heap.get?_push_of_some _ q) (ak _) ⟨_,e1⟩;refine I1.laid (a:=s.heap.objs.size+1) (o:=.ins C s.heap.objs.size []) (t':=s.toks) (λb u q=>Heap.get?_push_of_some _ q) (Nat.le_of_eq (Heap.size_push _ _)) ?_;have ne:s.heap.objs.size≠s.heap.objs.size+1:=cb (jt _);refine ⟨by rw[bH ne,aK],bx _,ne,e2,λ_=>none,(Heap.Ns1.of_empty e3).at λo q=>Heap.get?_push_of_some _ q,λ_=>True.intro,λy hy=>absurd rfl hy⟩
theorem Oz {prog:Program} {w:World} {env:Env} {e:Expr} {f:Str} {pos:Pos} {s:Shared} {Q:Value->Shared->Prop} (hb:attributeBase e f env (eval e env)=eval e env)
  (h:wpAny (model prog w) A (eval e env) (λo s₁=>wpAny (model prog w) A (getAttr o f true) Q E s₁) E s):wpAny (model prog w) A (eval (.Attribute e f pos) env) Q E s :=
 Attribute_any_ h (by rw[arm_eval_Attribute,hb])
end
def Ph (K:FG9) (ta:TE) (f:Str):TE:=λσ H Q=>ta σ H λx H1=>∃a C dx fs v,x=.ref a/\H1 a=some (.ins C dx fs)/\KR K C/\kU K C f/\fs.lookup f=some v/\Q v H1
def Ry (K:FG9) (ta tv:TE) (f:Str):TS:=λD σ H=>tv σ H λy H1=>ta σ H1 λx H2=>∃a C dx fs,x=.ref a/\H2 a=some (.ins C dx fs)/\KR K C/\kU K C f/\fs.length < 1000 /\
 D.nx σ (upd H2 a (.ins C dx (cz f y fs)))
section
variable {X:Cx} {o e value:Expr} {f:Str} {pos pos' tpos:Pos} {ta tv:TE}
theorem kF (he:PE X e ta) (hb:attributeBase e f X.env (eval e X.env)=eval e X.env):PE X (.Attribute e f pos) (Ph X.K ta f):=by
 intro pins s σ H Q I h;refine Oz hb (fR (he pins s σ H _ I h) λu s1 ⟨x,H1,I1,rx,a,C,dx,fs,v,ex,ea,c,n,l,q⟩=>?_);subst ex;obtain rfl:u=Value.ref a:=rx;exact Iu I1 ea c n l λu' s2 I2 ru=>⟨v,H1,I2,ru,q⟩
theorem zN (ha:PE X o ta) (hv:PE X value tv) (hs:swapsWith value (some (.Attribute o f pos')) pos.line X.env=pure false):PS X (.Assign [.Attribute o f pos'] value pos) (Ry X.K ta tv f):=by
 intro pins s σ H D I h;refine plainObj_wpAny_Assign_Attribute (fR (hv pins s σ H _ I h) λu s1 ⟨y,H1,I1,ry,q⟩=>fR (ha pins s1 σ H1 _ I1 q) λov s2 ⟨x,H2,I2,rx,a,C,dx,fs,ex,ea,c,n,l,q2⟩=>?_) hs;subst ex;obtain rfl:ov=Value.ref a:=rx;exact HI I2 ea c n l ry λs3 I3=>⟨σ,_,I3,q2⟩
end
section
variable {X:Cx} {pins:List (Addr×Obj)} {σ:St} {H:Hp} {s:Shared} {A:Around} {E:Value->Shared->Prop} {Q:Value->Shared->Prop} {c:Value} {b:Bool}
inductive yf (K:FG9) (H:Hp):V->Value->Prop where
 | non:yf K H .non (.type "NoneType")
 | bl (x:Bool):yf K H (.bl x) (.type "bool")
 | int (i:Int):yf K H (.int i) (.type "int")
 | str (x:Str):yf K H (.str x) (.type "str")
 | flt (x:UInt64):yf K H (.flt x) (.type "float")
 | lst {a:Addr} {xs:List V} (e:H a=some (.lst xs)):yf K H (.ref a) (.type "list")
 | frz {a:Addr} {o:Obj} {xs:List V} (e:H a=some (.frz o (.lst xs))):yf K H (.ref a) (.type "list")
 | tup {a:Addr} {xs:List V} (e:H a=some (.tup xs)):yf K H (.ref a) (.type "tuple")
 | dK {a:Addr} {kvs:List (Key×V)} (e:H a=some (.dK kvs)):yf K H (.ref a) (.type "dict")
 | dT {a:Addr} {kvs:List (List Key×V)} (e:H a=some (.dT kvs)):yf K H (.ref a) (.type "dict")
 | ins {a C dx:Addr} {fs:List (Str×V)} (e:H a=some (.ins C dx fs)) (cl:KR K C) (ha:PySem.W.findIn K (.ref C) "__class__"=some (some (.builtin "object.__class__")))
   (hn:PySem.W.specialIn K (.builtin "object.__class__") "__get__"=some (some (.builtin "getset_descriptor.__get__"))) (htk:PySem.W.takesIn K (.builtin "object.__class__")=some true)
   (hm:PySem.W.mroIn K C (.type "object")=some true):yf K H (.ref a) (.ref C)
theorem DL {x:V} {u t:Value} (I:Inv X pins σ H s) (rx:RelV x u) (ty:yf X.K H x t) (e:PySem.W.kitOne X.K t c=some b) (h:∀tk,Q (.bool b) { s with toks:=tk }) :
  wpAny (model X.prog X.w) A (call (.builtin "isinstance") [u,c]) Q E s:=by
 cases ty with
 | non=>cases (show u=Value.none from rx);exact dH PySem.W.kitx_none I.kIn True.intro e (λz=>nomatch z) h
 | bl y=>cases (show u=Value.bool y from rx);exact dH PySem.W.kitx_bool I.kIn True.intro e (λz=>nomatch z) h
 | int i=>obtain ⟨t,q⟩:=(show ∃t,u=Value.int i t from rx);cases q;exact dH PySem.W.kitx_int I.kIn True.intro e (λz=>nomatch z) h
 | str y=>obtain ⟨t,q⟩:=(show ∃t,u=Value.str y t from rx);cases q;exact dH PySem.W.kitx_str I.kIn True.intro e (λz=>nomatch z) h
 | flt y=>obtain ⟨t,q⟩:=(show ∃t,u=Value.float y t from rx);cases q;exact dH PySem.W.kitx_float I.kIn True.intro e (λz=>nomatch z) h
 | @lst a xs ea =>
  cases (show u=Value.ref a from rx);obtain ⟨_,_,n,_,h1⟩:=(show fZ X.prog X.w H s.heap a (.lst xs) from I.hok a _ ea);exact dH zo I.kIn ⟨_,h1,rfl⟩ e (λz=>nomatch z) h
 | @frz a ob xs ea =>
  cases (show u=Value.ref a from rx);obtain ⟨_,_,_,n,_,h1⟩:=(show fZ X.prog X.w H s.heap a (.frz ob (.lst xs)) from I.hok a _ ea);exact dH zo I.kIn ⟨_,h1,rfl⟩ e (λz=>nomatch z) h
 | @tup a xs ea =>
  cases (show u=Value.ref a from rx);obtain ⟨_,_,_,p⟩:=(show fZ X.prog X.w H s.heap a (.tup xs) from I.hok a _ ea);obtain ⟨o,h1,h2,_⟩:=p;exact dH xM I.kIn ⟨o,h1,h2⟩ e (λz=>nomatch z) h
 | @dK a kvs ea =>
  cases (show u=Value.ref a from rx);obtain ⟨_,_,vs,_,p⟩:=(show fZ X.prog X.w H s.heap a (.dK kvs) from I.hok a _ ea);obtain ⟨o,es,ep,h1,h2,_⟩:=p;exact dH zv I.kIn ⟨o,h1,h2.1⟩ e (λz=>nomatch z) h
 | @dT a kvs ea =>
  cases (show u=Value.ref a from rx);obtain ⟨_,_,xs,_,o,es,ep,h1,h2,_⟩:=(show fZ X.prog X.w H s.heap a (.dT kvs) from I.hok a _ ea);exact dH zv I.kIn ⟨o,h1,h2.1⟩ e (λz=>nomatch z) h
 | @ins a C dx fs ea cl ha hn htk hm =>
  cases (show u=Value.ref a from rx);obtain ⟨mA,O,_⟩:=yK I.hok ea;obtain ⟨od,J,_⟩:=O.look;exact dH (PySem.W.kitx_own (cl.get _) cl.hd ha hn htk hm) I.kIn J e (λz=>nomatch z) h
end
structure nY (k:Nat) (A:Around):Prop where
 hd:A.handled=none
 dp:A.depth+3*k+5 < recursionLimit
 un:A.units+16*k+200 < cLine
theorem nY.mono {j k:Nat} {A:Around} (r:nY k A) (h:j<=k):nY j A:=⟨r.hd,by have:=r.dp;lia,by have:=r.un;lia⟩
theorem nY.deeper {k:Nat} {A:Around} (r:nY (k+1) A) (env:Env):nY k (A.deeper env) :=
 ⟨r.hd,by have:=r.dp;show A.depth+1+3*k+5 < _;lia,by have:=r.un;show A.units+3+16*k+200 < _;lia⟩
theorem Ik {A:Around} {C:Addr} {us:List Value} {kw:List (Str×Value)}:(A.under (.builtin "type.__call__" ⟨.ref C :: us,kw⟩)).depth=A.depth+1:=by
 first | rfl | simp [Around.under,Code.weight,Code.isCreation,Code.isGuard,Code.isCaller,Code.frames,Code.isFrame,guardIds]
theorem Ij {A:Around} {C:Addr} {us:List Value} {kw:List (Str×Value)}:(A.under (.builtin "type.__call__" ⟨.ref C :: us,kw⟩)).units=A.units+1:=by
 first | rfl | simp [Around.under,Code.cUnits,Code.frames,Code.isFrame]
theorem nY.make {k:Nat} {A:Around} (r:nY (k+1) A) (C:Addr) (us:List Value) (kw:List (Str×Value)):nY k (A.under (.builtin "type.__call__" ⟨.ref C :: us,kw⟩)) :=
 ⟨r.hd,by have:=r.dp;rw[Ik];lia,by have:=r.un;rw[Ij];lia⟩
theorem nY.depth {k:Nat} {A:Around} (r:nY k A):A.depth < recursionLimit:=by have:=r.dp;lia
theorem nY.units {k:Nat} {A:Around} (r:nY k A):A.units+64 < cLine:=by have:=r.un;lia
def JS:TA:=λ_ H Q=>Q [] H
def uU (ta:TE) (tr:TA):TA:=λσ H Q=>ta σ H λx H1=>tr σ H1 λxs H2=>Q (x :: xs) H2
section
variable {X:Cx} {e:Expr} {es:List Expr} {te:TE} {t:TA} {pos:Pos}
theorem ag:PA X [] JS:=λ_ _ _ _ H Q I h=>Calls.spliced_nil ⟨[],H,I,.nil,h⟩
theorem aa (ha:PE X e te) (hr:PA X es t) (hs:starEach (e :: es) X.env=(false,eval e X.env) :: starEach es X.env:=by rfl):PA X (e :: es) (uU te t):=by
 intro pos pins s σ H Q I h;rw[hs];show wpAny _ _ (spliced ((false,eval e X.env) :: backTo pos (starEach es X.env))) _ _ s
 refine Calls.spliced_cons (fR (ha pins s σ H _ I h) λu s1 ⟨x,H1,I1,r1,q1⟩=>?_);exact fR (hr pos pins s1 σ H1 _ I1 q1) λus s2 ⟨xs,H2,I2,r2,q2⟩=>⟨x :: xs,H2,I2,.cons r1 r2,q2⟩
def Q5 (t:TA):TE:=λσ H Q=>t σ H λxs H1=>xs.length<=sizeLine/\∀p,H1 p=none->Q (.ref p) (upd H1 p (.tup xs))
def Rh (t:TA):TE:=λσ H Q=>t σ H λxs H1=>xs.length<=sizeLine/\∀p,H1 p=none->Q (.ref p) (upd H1 p (.lst xs))
theorem cL {x1} (h:PA X es t):PE X (.Tuple es x1 pos) (Q5 t):=by
 intro pins s σ H Q I hq;refine wpAny_Tuple_spliced (fR (h pos pins s σ H _ I hq) λus s1 ⟨xs,H1,I1,r,z,q⟩=>⟨by rw[<- r.length];exact z,?_⟩);have hf:H1 s1.heap.objs.size=none:=I1.hok.fresh (ak _);refine ⟨.ref s1.heap.objs.size,upd H1 s1.heap.objs.size (.tup xs),I1.laid (t':=s1.toks) (λb u e=>Heap.get?_push_of_some _ e) (ak _) ?_,rfl,q _ hf⟩;exact ⟨z,us,r,⟨_,Heap.get?_push_size _ rfl,rfl,_,rfl⟩⟩
theorem di (h:PA X es t):PE X (.List es pos) (Rh t):=by
 intro pins s σ H Q I hq;refine wpAny_List_spliced (fR (h pos pins s σ H _ I hq) λus s1 ⟨xs,H1,I1,r,z,q⟩=>⟨by rw[<- r.length];exact z,?_⟩);have hf:H1 s1.heap.objs.size=none:=I1.hok.fresh (ak _);refine ⟨.ref s1.heap.objs.size,upd H1 s1.heap.objs.size (.lst xs),I1.laid (t':=s1.toks) (λb u e=>Heap.get?_push_of_some _ e) (ak _) ?_,rfl,q _ hf⟩;exact ⟨z,us,0,r,Heap.get?_push_size _ rfl⟩
end
abbrev Sp:=List V->Hp->VK->XK->Prop
abbrev MX:=List Env->Hp->Shared->XK->Value->Shared->Prop
structure IJ (P:Program) (w:World) (K:FG9) (mg:Str->Option Value) (base:Heap) (A:Around) (outer:List Env) (s:Shared) (H:Hp):Prop where
 frames:A.frames=some outer
 mod:Mod K mg base
 bs:∀b o,base.get? b=some o->s.heap.get? b=some o/\H b=none
 bsz:base.objs.size<=s.heap.objs.size
 funs:s.heap.FunFrames base outer
 frf:∀b∈KP outer,H b=none
 hok:Bc P w H s.heap
 bare:AllBare s.gens
def CE (outer:List Env) (P:Program) (w:World) (H:Hp) (s:Shared) (Q:VK) (u:Value) (s':Shared):Prop :=
 ∃v H',s'.os=s.os/\AllBare s'.gens/\Un (KP outer) [] H H' s.heap s'.heap/\Bc P w H' s'.heap/\RelV v u/\Q v H'
def CR (CX:MX) (outer:List Env) (P:Program) (w:World) (H:Hp) (s:Shared) (Q:VK) (E:XK) (r:Result) (s':Shared):Prop :=
 match r with
 | .ok (.ret u)=>CE outer P w H s Q u s'
 | .ok _=>False
 | .error e=>CX outer H s E e s'
structure cK (P:Program) (w:World) (K:FG9) (mg:Str->Option Value) (base:Heap) (CX:MX) (k:Nat) (f:Addr) (fd:FuncData) (ps:List Str) (sp:Sp):Prop where
 len:∀vs H Q E,sp vs H Q E->vs.length=ps.length
 run:∀(A:Around) (outer:List Env) (s:Shared) (H:Hp) (args:Args) (us:List Value) (vs:List V) (Q:VK) (E:XK),nY k A->IJ P w K mg base A outer s H->BindsTo s fd args (ps.zip us)->cU vs us->sp vs H Q E →
  codeAny (model P w) A (.call (.ref f) args) (CR CX outer P w H s Q E) s
theorem IJ.make {P:Program} {w:World} {K:FG9} {mg:Str->Option Value} {base:Heap} {A:Around} {outer:List Env} {s:Shared} {H:Hp} (e:IJ P w K mg base A outer s H) (C:Addr) (us:List Value) (kw:List (Str×Value)) :
  IJ P w K mg base (A.under (.builtin "type.__call__" ⟨.ref C :: us,kw⟩)) outer s H:=⟨by first | exact e.frames | (simpa [Around.under,Code.envs,Code.isFrame,pushEnvs] using e.frames),e.mod,e.bs,e.bsz,e.funs,e.frf,e.hok,e.bare⟩
section
variable {X:Cx} {pins:List (Addr×Obj)} {σ:St} {H:Hp} {s s':Shared}
theorem Inv.env0 (I:Inv X pins σ H s):IJ X.prog X.w X.K X.mg X.base X.A X.stack s H :=
 ⟨I.ok.frames,I.ok.mod,I.bs,ai I.ok.bsz I.sz,I.stack,I.stkFree,I.hok,I.bare⟩
theorem Inv.after {Q:VK} {u:Value} (I:Inv X pins σ H s) (h:CE X.stack X.prog X.w H s Q u s'):EP X pins σ Q u s':=by
 obtain ⟨v,H',os,bare,un,hok,r,q⟩:=h;obtain ⟨hh,g,d,t,os'⟩:=s';obtain rfl:os'=s.os:=os;exact ⟨v,H',I.call (h':=hh) (g':=g) (d':=d) (t':=t) (ch:=[]) un hok bare (λb z=>absurd z (by simp)),r,q⟩
end
def K8 (sp:Sp) (dvs:List V) (E:XK) (t:TA):TE:=λσ H Q=>t σ H λvs H1=>sp (vs++dvs) H1 Q E
def OK (C:Addr) (m:Str) (sp:Sp) (dvs:List V) (E:XK) (ta:TE) (t:TA):TE:=λσ H Q=>ta σ H λx H1=>∃a dx fs,x=.ref a/\H1 a=some (.ins C dx fs)/\fs.lookup m=none /\
 t σ H1 λvs H2=>sp (x :: (vs++dvs)) H2 Q E
def OL (C:Addr) (sp:Sp) (dvs:List V) (E:XK) (t:TA):TE:=λσ H Q=>t σ H λvs H1=>∀x dx,H1 x=none->H1 dx=none->dx≠x →
 sp (.ref x :: (vs++dvs)) (upd (upd H1 dx (.own x)) x (.ins C dx [])) (λv H2=>v=.non/\Q (.ref x) H2) E
def Binds (K:FG9) (fd:FuncData) (ps:List Str) (ds:List Value):Prop :=
 ∀(s:Shared) (us:List Value),K.In s.heap->(us++ds).length=ps.length->BindsTo s fd ⟨us,[]⟩ (ps.zip (us++ds))
theorem Binds.all {K:FG9} {fd:FuncData} {ps:List Str} (h:∀us:List Value,us.length=ps.length->bindArgs fd ⟨us,[]⟩=pure (ps.zip us)):Binds K fd ps []:=λs us _ hl=>by
 rw[oY] at hl ⊢;exact .of_eq (h us hl)
def z9 (CX:MX) (X:Cx) (E:XK):Prop:=∀(pins:List (Addr×Obj)) (σ:St) (H:Hp) (s:Shared) (e:Value) (s':Shared),Inv X pins σ H s->CX X.stack H s E e s'->X.xe e s'
section
variable {X:Cx} {CX:MX} {k:Nat} {f C:Addr} {fd:FuncData} {ps:List Str} {sp:Sp} {dvs:List V} {ds:List Value} {E:XK} {x m:Str} {p pos apos:Pos} {e o:Expr} {es:List Expr} {ta:TE} {t:TA}
theorem Ln {pins:List (Addr×Obj)} {σ:St} {H:Hp} {s:Shared} {Q:VK} {us:List Value} {vs:List V} (F:cK X.prog X.w X.K X.mg X.base CX k f fd ps sp) (hr:nY k X.A) (hb:Binds X.K fd ps ds) (hd:cU dvs ds) (hx:z9 CX X E)
  (I:Inv X pins σ H s) (r:cU vs us) (h:sp (vs++dvs) H Q E):wpAny (model X.prog X.w) X.A (call (.ref f) us) (EP X pins σ Q) X.xe s:=by
 have r2:cU (vs++dvs) (us++ds):=r.append hd;have hl:(us++ds).length=ps.length:=by rw[<- r2.length];exact F.len _ _ _ _ h
 refine wpAny_call (codeAny_mono (F.run X.A X.stack s H ⟨us,[]⟩ (us++ds) (vs++dvs) Q E hr I.env0 (hb s us I.kIn hl) r2 h) λr s' hq=>?_);cases r with
 | error e=>exact hx pins σ H s e s' I hq
 | ok fl =>
  cases fl with
  | ret u=>exact I.after hq
  | next=>exact False.elim hq
  | brk=>exact False.elim hq
  | cont=>exact False.elim hq
theorem AZ (F:cK X.prog X.w X.K X.mg X.base CX k f fd ps sp) (hr:nY k X.A) (hg:Gl X x) (hm:X.mg x=some (.ref f)) (hk:PySem.W.keepIn X.K (.ref f)=true) (hb:Binds X.K fd ps ds) (hd:cU dvs ds) (hx:z9 CX X E)
  (ha:PA X (e :: es) t) (hdb:(x == ("__debug__":Str))=false:=by decide) (he:starEach (e :: es) X.env=(false,eval e X.env) :: starEach es X.env:=by rfl) (hpl:(backTo pos (starEach es X.env)).any (·.1)=false:=by rfl) :
  PE X (.Call (.Name x p) (e :: es) [] pos) (K8 sp dvs E t):=by
 intro pins s σ H Q I h;refine wpAny_Call_Name_kw (ES I hg hm ?_ hdb);refine HB (h₀:=X.base) I.ok.mod.kin hk (fR (ha pos pins s σ H _ I h) λus s1 ⟨vs,H1,I1,r,q⟩=>⟨I1.kIn,?_⟩) he hpl;exact Ln F hr hb hd hx I1 r q
theorem N9 {pl : Sem Bool} (he : PE X o ta) (c : KR X.K C) (hm : QI X.K C m f) (F : cK X.prog X.w X.K X.mg X.base CX k f fd ps sp) (hr : nY k X.A) (hb : Binds X.K fd ps ds) (hd : cU dvs ds) (hx : z9 CX X E) (ha : PA X (e :: es) t)
    (hst : starEach (e :: es) X.env = (false, eval e X.env) :: starEach es X.env := by rfl) (hpl : (backTo pos (starEach es X.env)).any (·.1) = false := by rfl)
    (ht : eval (.Call (.Attribute o m apos) (e :: es) [] pos) X.env = (do
      let ov <- eval o X.env
      standAt apos.atName
      let (f, first) <- holding [ov] (getMethod ov m pl)
      callWith pos f first (backTo pos (starEach (e :: es) X.env)) (backToKw pos (keywordEach [] X.env))) := by rfl) :
    PE X (.Call (.Attribute o m apos) (e :: es) [] pos) (OK C m sp dvs E ta t) := by
  intro pins s σ H Q I h;refine PySem.W.methodCall_KW (pl := pl) (fR (he pins s σ H _ I h) λu s1 ⟨x, H1, I1, rx, a, dx, fs, ex, ea, l, q⟩ => ?_) ht;subst ex;obtain rfl : u = Value.ref a := rx;refine Ir I1 ea c hm l ?_;refine HB (first := [.ref a]) (h₀ := X.base) I.ok.mod.kin hm.kp (fR (ha pos pins s1 σ H1 _ I1 q) λus s2 ⟨vs, H2, I2, r, q2⟩ => ⟨I2.kIn, ?_⟩) hst hpl;exact Ln (us := .ref a :: us) (vs := .ref a :: vs) F hr hb hd hx I2 (.cons rfl r) q2
structure Mk (K:FG9) (C f:Addr):Prop where
 makes:PySem.W.makesIn K C=true
 init:PySem.W.findIn K (.ref C) "__init__"=some (some (.ref f))
 fn:PySem.W.isFn K (.ref f)=true
 kp:PySem.W.keepIn K (.ref C)=true
theorem Lm {pins:List (Addr×Obj)} {σ:St} {H:Hp} {s:Shared} {Q:VK} {us:List Value} {vs:List V} (M:Mk X.K C f) (F:cK X.prog X.w X.K X.mg X.base CX k f fd ps sp) (hr:nY (k+1) X.A) (hb:Binds X.K fd ps ds) (hd:cU dvs ds)
  (hx:z9 CX X E) (I:Inv X pins σ H s) (r:cU vs us)
  (h:∀x dx,H x=none->H dx=none->dx≠x->sp (.ref x :: (vs++dvs)) (upd (upd H dx (.own x)) x (.ins C dx [])) (λv H2=>v=.non/\Q (.ref x) H2) E) :
  wpAny (model X.prog X.w) X.A (call (.ref C) us) (EP X pins σ Q) X.xe s:=by
 have hq:=h (s.heap.objs.size+1) s.heap.objs.size (I.hok.fresh (uL _)) (I.hok.fresh (ak _)) (cb (jt _));have I2:=Inv.made (C:=C) I;have r2:cU (V.ref (s.heap.objs.size+1) :: (vs++dvs)) (Value.ref (s.heap.objs.size+1) :: (us++ds)):=.cons rfl (r.append hd)
 have hl:(Value.ref (s.heap.objs.size+1) :: us++ds).length=ps.length:=by
  have e:=r2.length;rw[F.len _ _ _ _ hq] at e;exact e.symm
 refine wpAny_call (LX (f:=f) I.kIn M.makes M.init (beq_iff_eq.mp M.fn) (codeAny_mono (F.run _ X.stack _ _ ⟨Value.ref (s.heap.objs.size+1) :: us,[]⟩ (Value.ref (s.heap.objs.size+1) :: (us++ds)) _ _ E (hr.make C us [])
  (I2.env0.make C us []) (hb _ (Value.ref (s.heap.objs.size+1) :: us) I2.kIn hl) r2 hq) λr s' hq'=>?_))
 cases r with
 | error e=>exact hx pins σ _ _ e s' I2 hq'
 | ok fl =>
  cases fl with
  | ret u =>
   obtain ⟨v,H',I3,rv,ev,q3⟩:=I2.after hq';subst ev;exact ⟨rv,⟨V.ref (s.heap.objs.size+1),H',I3,rfl,q3⟩⟩
  | next=>exact False.elim hq'
  | brk=>exact False.elim hq'
  | cont=>exact False.elim hq'
theorem Oa (M:Mk X.K C f) (F:cK X.prog X.w X.K X.mg X.base CX k f fd ps sp) (hr:nY (k+1) X.A) (hg:Gl X x) (hm:X.mg x=some (.ref C)) (hb:Binds X.K fd ps ds) (hd:cU dvs ds) (hx:z9 CX X E)
  (ha:PA X (e :: es) t) (hdb:(x == ("__debug__":Str))=false:=by decide) (he:starEach (e :: es) X.env=(false,eval e X.env) :: starEach es X.env:=by rfl) (hpl:(backTo pos (starEach es X.env)).any (·.1)=false:=by rfl) :
  PE X (.Call (.Name x p) (e :: es) [] pos) (OL C sp dvs E t):=by
 intro pins s σ H Q I h;refine wpAny_Call_Name_kw (ES I hg hm ?_ hdb);refine HB (h₀:=X.base) I.ok.mod.kin M.kp (fR (ha pos pins s σ H _ I h) λus s1 ⟨vs,H1,I1,r,q⟩=>⟨I1.kIn,?_⟩) he hpl;exact Lm M F hr hb hd hx I1 r q
end
structure bu (N P:List Str) (sc:Scope):Prop where
 kind:sc.kind=.function
 co:sc.isCoroutine=false
 gen:sc.isGenerator=false
 nd:N.Nodup
 pre:N.take P.length=P
 par:∀x∈P,sc.names.lookup x=some .local\/sc.names.lookup x=some .cell
 nofree:∀y∈sc.names,y.2≠.free
theorem DV {kindOf:Str->Option NameKind} {x:Str}:∀{binds:List (Str×Value)} {m:Str->Option Value},(∀v,(x,v)∉binds)->bindL kindOf binds m x=m x
 | [],_,_=>rfl
 | (n,v) :: r,m,h=>by
  unfold bindL;rw[DV λw hw=>h w (b8 _ hw)]
  split
  ·have:x≠n:=by rintro rfl;exact h v dC
   simp [this]
  ·rfl
theorem DX {kindOf:Str->Option NameKind} {x:Str}:∀{binds:List (Str×Value)} {m:Str->Option Value},(∀v,(x,v)∉binds)->bindC kindOf binds m x=m x
 | [],_,_=>rfl
 | (n,v) :: r,m,h=>by
  unfold bindC;rw[DX λw hw=>h w (b8 _ hw)]
  split
  ·rfl
  ·have:x≠n:=by rintro rfl;exact h v dC
   simp [this]
theorem DW {kindOf:Str->Option NameKind} {x:Str} {v:Value}:∀{P:List Str} {vs:List Value} {i:Nat} {m:Str->Option Value},P.Nodup->P[i]?=some x->vs[i]?=some v->kindOf x=some .local →
  bindL kindOf (P.zip vs) m x=some v
 | [],_,_,_,_,h,_,_=>by simp at h
 | _ :: _,[],_,_,_,_,h,_=>by simp at h
 | p :: P,w :: vs,0,m,nd,h1,h2,hk=>by
  simp at h1 h2;subst h1;subst h2;show bindL kindOf ((p,w) :: P.zip vs) m p=_
  unfold bindL;rw[DV λv hv=>(eU.mp nd).1 (M6 hv).1,if_pos hk];simp
 | p :: P,w :: vs,i+1,m,nd,h1,h2,hk=>by
  show bindL kindOf ((p,w) :: P.zip vs) m x=_
  unfold bindL;exact DW (i:=i) (eU.mp nd).2 (by simpa using h1) (by simpa using h2) hk
theorem DY {kindOf:Str->Option NameKind} {x:Str} {v:Value}:∀{P:List Str} {vs:List Value} {i:Nat} {m:Str->Option Value},P.Nodup->P[i]?=some x->vs[i]?=some v->kindOf x≠some .local →
  bindC kindOf (P.zip vs) m x=some v
 | [],_,_,_,_,h,_,_=>by simp at h
 | _ :: _,[],_,_,_,_,h,_=>by simp at h
 | p :: P,w :: vs,0,m,nd,h1,h2,hk=>by
  simp at h1 h2;subst h1;subst h2;show bindC kindOf ((p,w) :: P.zip vs) m p=_
  unfold bindC;rw[DX λv hv=>(eU.mp nd).1 (M6 hv).1,if_neg hk];simp
 | p :: P,w :: vs,i+1,m,nd,h1,h2,hk=>by
  show bindC kindOf ((p,w) :: P.zip vs) m x=_
  unfold bindC;exact DY (i:=i) (eU.mp nd).2 (by simpa using h1) (by simpa using h2) hk
def start (N:List Str) (vs:List V):St:=vs.map some++List.replicate (N.length - vs.length) none
def KC (CX:MX) (P:Program) (w:World) (K:FG9) (mg:Str->Option Value) (base:Heap) (N:List Str) (qual:Str) (scope:Scope) (f:Addr) (cd:Value) (A:Around) (outer:List Env) (s:Shared) (H:Hp) (E:XK):Cx where
 prog:=P
 w:=w
 K:=K
 mg:=mg
 base:=base
 A:=A.deeper (envOfC qual scope s.heap.objs.size f cd)
 N:=N
 s₀:=s
 H₀:=H
 env:=envOfC qual scope s.heap.objs.size f cd
 outer:=outer
 stack:=envOfC qual scope s.heap.objs.size f cd :: outer
 ex:=[]
 calm:=true
 fn:=λ_=>true
 pn:=[]
 xe:=λe s'=>wpAny (model P w) (A.deeper (envOfC qual scope s.heap.objs.size f cd)) (leaving (envOfC qual scope s.heap.objs.size f cd) e) (λ_ s''=>CX outer H s E e s'') (λe' s''=>CX outer H s E e' s'') s'
theorem GV {sc:Scope} {n:Nat} {x:Str} (h:sc.names.lookup x=some .cell):∃c,(cellsFrom n sc.names []).lookup x=some c:=by
 have q:=Bf sc.names n [] (.inl h);exact QZ.mp q
theorem Kv {CX:MX} {P:Program} {w:World} {K:FG9} {mg:Str->Option Value} {base:Heap} {N ps:List Str} {qual:Str} {scope:Scope} {f:Addr} {cd:Value} {A:Around} {outer:List Env} {s s1:Shared} {H:Hp} {E:XK} {us:List Value} {vs:List V}
  (S:bu N ps scope) (hd:A.handled=none) (e0:IJ P w K mg base A outer s H) (hl:vs.length=ps.length) (r:cU vs us)
  (x:InCallC s s.heap.objs.size (bindL (envOfC qual scope s.heap.objs.size f cd).kindOf (ps.zip us) λ_=>none) (cellsFrom (s.heap.objs.size+1) scope.names []) (bindC (envOfC qual scope s.heap.objs.size f cd).kindOf (ps.zip us) λ_=>none) s1) :
  Inv (KC CX P w K mg base N qual scope f cd A outer s H E) [] (start N vs) H s1:=by
 have hpl:ps.length<=N.length:=by have:=congrArg List.length S.pre;rw[cT] at this;lia
 obtain ⟨h1,tk,rfl,hk⟩:=x.done;have noA:∀b:Addr,b∉(KC CX P w K mg base N qual scope f cd A outer s H E).ex:=λb z=>absurd (show b∈([]:List Addr) from z) (by simp)
 refine ⟨⟨e0.mod,S.kind,rfl,rfl,ak _,λy z c h1 h2=>?_,λy hy=>?_,λy c _ h=>?_,λ_=>hd,Around.frames_deeper e0.frames,.inr ⟨rfl,rfl⟩,λb z=>absurd z (noA b),e0.bs,e0.bsz,λb _ _=>noA b,λb z=>absurd z (noA b),e0.funs,e0.frf⟩,
  rfl,e0.bare,Un.kept hk,⟨_,x.toInCall.ns,λi y v h1 h2 h3=>?_⟩,λy c h=>⟨_,x.cell y c h⟩,e0.hok.fresh (ak _),λy c h=>?_,λp hp=>absurd (show p∈([]:List (Addr×Obj)) from hp) (by simp),e0.hok.kept hk,?_⟩
 ·exact name_of_addr x.apart (nR h1) (nR h2)
 ·have hy:scope.names.lookup y=some .cell\/scope.names.lookup y=some .free:=hy;rcases hy with hy | hy
  ·exact GV hy
  ·exact absurd rfl (S.nofree _ (nR hy))
 ·exact bc (x.above y c (nR h))
 ·have hi:i < vs.length:=by
   unfold start at h2;by_cases hi:i < vs.length
   ·exact hi
   ·rw[ba (by simpa using hi)] at h2;rw[fG] at h2
    split at h2 <;> cases h2
  have ha:vs[i]?=some v:=by
   unfold start at h2;rw[bA (by simpa using hi),aM] at h2;cases e:vs[i]? with
   | none=>rw[e] at h2;cases h2
   | some a=>rw[e] at h2;cases h2;rfl
  obtain ⟨u,hu,rv⟩:=r.get ha
  have hp:ps[i]?=some y:=by
   rw[<- S.pre,zz (by lia)];exact h1
  have ndP:ps.Nodup:=by rw[<- S.pre];exact S.nd.sublist (List.take_sublist _ _)
  refine ⟨u,rv,?_⟩;rcases S.par y (aw hp) with k | k
  ·exact .inl ⟨k,DW ndP hp hu k⟩
  ·obtain ⟨c,e⟩:=GV (n:=s.heap.objs.size+1) k;refine .inr ⟨.inl k,c,e,?_⟩;have q:=x.cell y c e;rw[DY ndP hp hu (by show scope.names.lookup y≠_;rw[k];decide)] at q;exact q
 ·exact e0.hok.fresh (bc (x.above y c (nR h)))
 ·unfold start;show _=N.length
  rw[av,ao,aI]
  lia
theorem Sa {CX:MX} {P:Program} {w:World} {K:FG9} {mg:Str->Option Value} {base:Heap} {k:Nat} {f:Addr} {name qual:Str} {params:Arguments} {body:List Stmt} {scope:Scope} {dV kV doc pm cdv ct oc:Value} {an od:Option Addr}
  {osl:Array (Option Value)} {N ps:List Str} {sp:Sp} (lk:K.lookup f=some ⟨oc,od,.func (PySem.W.fnOf name qual params body scope dV kV doc pm an cdv ct),osl⟩) (hcd:PySem.W.codeIn K cdv qual=true) (S:bu N ps scope)
  (len:∀vs H Q E,sp vs H Q E->vs.length=ps.length)
  (hbody:∀(A:Around) (outer:List Env) (s:Shared) (H:Hp) (vs:List V) (Q:VK) (E:XK),nY k (A.deeper (envOfC qual scope s.heap.objs.size f cdv))->sp vs H Q E →
   ∃t,IF (KC CX P w K mg base N qual scope f cdv A outer s H E) body t/\t { nx:=λ_ H'=>Q .non H',rt:=Q } (start N vs) H) :
  cK P w K mg base CX (k+1) f (PySem.W.fnOf name qual params body scope dV kV doc pm an cdv ct) ps sp:=by
 refine ⟨len,λA outer s H args us vs Q E hr e0 hb r hsp=>?_⟩;have hl:=len _ _ _ _ hsp;have KX:K.In s.heap:=e0.mod.kin.keeps λb o e=>(e0.bs b o e).1
 have lim:s.heap.NoLimit:=e0.mod.nolimit.keeps λb o e=>(e0.bs b o e).1
 have hkind:∀y∈ps.zip us,scope.names.lookup y.1=some .local\/(scope.names.lookup y.1=some .cell/\((cellsFrom (s.heap.objs.size+1) scope.names []).lookup y.1).isSome=true):=λ⟨n,v⟩ hy=>by
  rcases S.par n (M6 hy).1 with q | q
  ·exact .inl q
  ·exact .inr ⟨q,Bf _ _ _ (.inl q)⟩
 refine codeAny_call_function hr.depth (KX _ _ lk) rfl S.co S.gen rfl (PySem.W.codeRec_of KX hcd) (hb _ _ _ _ ?_);refine wpAny_newFunctionEnv_cells S.kind hkind λenv he s1 x=>?_
 subst he;refine ⟨lim.keeps x.toInCall.keep,codeAny_func ?_⟩;obtain ⟨t,ht,hq⟩:=hbody A outer s H vs Q E (hr.deeper _) hsp;have I:Inv (KC CX P w K mg base N qual scope f cdv A outer s H E) [] (start N vs) H s1:=Kv S hr.hd e0 hl r x;refine wpAny_mono (ht [] s1 (start N vs) H _ I hq) (λfl s' hs=>?_) λe s' hs=>hs
 have fin:∀{σ':St} {H':Hp} {v:V} {u:Value},Inv (KC CX P w K mg base N qual scope f cdv A outer s H E) [] σ' H' s'->RelV v u->Q v H'->CE outer P w H s Q u s' :=
  λ{σ' H' v u} J rv q=>⟨v,H',J.os,J.bare,J.base,J.hok,rv,q⟩
 cases fl with
 | ret u =>
  obtain ⟨v,σ',H',J,rv,q⟩:=hs;exact fin J rv q
 | next =>
  obtain ⟨σ',H',J,q⟩:=hs;exact fin (v:=V.non) (u:=Value.none) J rfl q
 | brk =>
  obtain ⟨_,_,_,q⟩:=hs;exact False.elim q
 | cont =>
  obtain ⟨_,_,_,q⟩:=hs;exact False.elim q
section
variable {X:Cx} {x:Str} {p pos:Pos} {e:Expr} {es:List Expr} {t:TA} {id T:String} {r:List V->Hp->VK->Prop}
def SQ (r:List V->Hp->VK->Prop) (t:TA):TE:=λσ H Q=>t σ H λvs H1=>r vs H1 Q
theorem bD (hc:rz X (.builtin id) r) (hg:Gl X x) (hm:X.mg x=none) (hv:bootBuiltins x=some (.builtin id)) (ha:PA X (e :: es) t) (hn:x≠"__name__":=by decide) (hdb:(x == ("__debug__":Str))=false:=by decide)
  (he:starEach (e :: es) X.env=(false,eval e X.env) :: starEach es X.env:=by rfl) (hpl:(backTo pos (starEach es X.env)).any (·.1)=false:=by rfl):PE X (.Call (.Name x p) (e :: es) [] pos) (SQ r t):=by
 intro pins s σ H Q I h;refine wpAny_Call_Name_kw (lV I hg hm hv ?_ hn hdb);exact PyProof.Rows.callWith_builtin1 (fR (ha pos pins s σ H _ I h) λus s1 ⟨vs,H1,I1,r1,q1⟩=>hc pins s1 σ H1 vs us Q I1 r1 q1) he hpl
theorem d5 (hc:rz X (.type T) r) (hg:Gl X x) (hm:X.mg x=none) (hv:bootBuiltins x=some (.type T)) (ha:PA X (e :: es) t) (hn:x≠"__name__":=by decide) (hdb:(x == ("__debug__":Str))=false:=by decide)
  (he:starEach (e :: es) X.env=(false,eval e X.env) :: starEach es X.env:=by rfl) (hpl:(backTo pos (starEach es X.env)).any (·.1)=false:=by rfl):PE X (.Call (.Name x p) (e :: es) [] pos) (SQ r t):=by
 intro pins s σ H Q I h;refine wpAny_Call_Name_kw (lV I hg hm hv ?_ hn hdb);exact PyProof.Rows.callWith_type1 (fR (ha pos pins s σ H _ I h) λus s1 ⟨vs,H1,I1,r1,q1⟩=>hc pins s1 σ H1 vs us Q I1 r1 q1) he hpl
end
end L2
namespace HT
open PySem PyProof.Rows
section
open PySem.SeqAt
open PySem.AutoSeq1 (wpAny_loadPart')
open PySem.MeetsSeq PySem.MeetsSeq2 PySem.MeetsSeq3
end
section
variable {prog:Program} {w:World} {A:Around} {E:Value->Shared->Prop} {s:Shared}
def Ge (n d:Nat):Option Int->Nat
 | none=>d
 | some v=>if v < 0 then (v+(n:Int)).toNat else min v.toNat n
theorem Gd (n d:Nat):Ge n d none=d:=rfl
theorem AX (n d k:Nat):Ge n d (some (k:Int))=min k n:=by
 show (if (k:Int) < 0 then ((k:Int)+(n:Int)).toNat else min (k:Int).toNat n)=min k n
 rw[if_neg (by lia),Int.toNat_natCast]
end
end HT
namespace L2
open PySem PySem.Spec PyProof.Rows
abbrev TO:=St->Hp->(Option Int->Hp->Prop)->Prop
def PO (X:Cx) (e:Option Expr) (t:TO):Prop :=
 ∀(pins:List (Addr×Obj)) (s:Shared) (σ:St) (H:Hp) (Q:Option Int->Hp->Prop),Inv X pins σ H s->t σ H Q →
  wpAny (model X.prog X.w) X.A (evalPart e X.env) (λu s'=>∃o H',Inv X pins σ H' s'/\IsPart u o/\Q o H') X.xe s
def IQ:TO:=λ_ H Q=>Q none H
def OH (t:TE):TO:=λσ H Q=>t σ H λx H1=>∃i,x=.int i/\Q (some i) H1
theorem intsAre_of {ns:List Int}:∀{us:List Value},cU (ns.map V.int) us->IntsAre us ns:=by
 induction ns with
 | nil=>intro us r;rw[List.map_nil] at r;cases r;exact .nil
 | cons n ns ih =>
  intro us r;rw[iD] at r;cases r with
  | cons r1 r2 =>
   obtain ⟨t,e⟩:=r1;subst e;exact .cons n t (ih r2)
section
variable {X:Cx} {e:Expr} {te:TE} {lo hi:Option Expr} {tl th:TO} {pos p2:Pos}
theorem Jf:PO X none IQ:=by
 intro pins s σ H Q I h;rw[evalPart_none];exact wpAny_pure ⟨none,H,I,.none,h⟩
theorem AY (h:PE X e te):PO X (some e) (OH te):=by
 intro pins s σ H Q I hw;rw[evalPart_some];refine fR (h pins s σ H _ I hw) λu s1 ⟨x,H1,I1,r1,q1⟩=>?_
 obtain ⟨i,rfl,q⟩:=q1;obtain ⟨t,rfl⟩:=r1;exact ⟨some i,H1,I1,.int i t,q⟩
def S9 (X:Cx) (r:V->Option Int->Option Int->Hp->VK->Prop):Prop :=
 ∀(pins:List (Addr×Obj)) (s:Shared) (σ:St) (H:Hp) (x:V) (v vl vu:Value) (lo hi:Option Int) (sl:Addr) (Q:VK),Inv X pins σ H s->RelV x v->s.heap.IsSliceOf sl vl vu .none->IsPart vl lo->IsPart vu hi->r x lo hi H Q →
  ∃T id,typeLookup (.type T) "__getitem__"=pure (some (.builtin id))/\s.TypeIs v T/\wpAny (model X.prog X.w) X.A (getItem v (.ref sl)) (EP X pins σ Q) X.xe s
def tSl (r:V->Option Int->Option Int->Hp->VK->Prop) (te:TE) (tl th:TO):TE:=λσ H Q=>te σ H λx H1=>tl σ H1 λl H2=>th σ H2 λu H3=>r x l u H3 Q
theorem BN {r:V->Option Int->Option Int->Hp->VK->Prop} (hr:S9 X r) (he:PE X e te) (hl:PO X lo tl) (hu:PO X hi th):PE X (.Subscript e (.Slice lo hi none p2) pos) (tSl r te tl th):=by
 intro pins s σ H Q I h;refine Subscript_ (fR (he pins s σ H _ I h) λv s1 ⟨x,H1,I1,r1,q1⟩=>?_);refine wpAny_Slice (fR (hl pins s1 σ H1 _ I1 q1) λvl s2 ⟨l,H2,I2,pl,q2⟩=>fR (hu pins s2 σ H2 _ I2 q2) λvu s3 ⟨u,H3,I3,pu,q3⟩=>?_);rw[evalPart_none];refine wpAny_pure ?_;have I4:Inv X pins σ H3 { s3 with heap:=s3.heap.push { cls:=.type "slice",data:=.fields #[vl,vu,.none] } }:=I3.kept (t':=s3.toks) λb ob q=>Heap.get?_push_of_some _ q
 obtain ⟨T,id,hT,ht,hg⟩:=hr pins { s3 with heap:=s3.heap.push { cls:=.type "slice",data:=.fields #[vl,vu,.none] } } σ H3 x v vl vu l u s3.heap.objs.size Q I4 r1 (Heap.IsSliceOf.new ..) pl pu q3;show wpAny (model X.prog X.w) X.A (subscriptTail e (.Slice lo hi none p2) v (.ref s3.heap.objs.size)) (EP X pins σ Q) X.xe { s3 with heap:=s3.heap.push { cls:=.type "slice",data:=.fields #[vl,vu,.none] } }
 exact tail_any (ops:=[.ref s3.heap.objs.size,v]) ht hT hg (by with_unfolding_all rfl)
def xi (xs:List V) (lo hi:Option Int):List V:=(xs.drop (HT.Ge xs.length 0 lo)).take (HT.Ge xs.length xs.length hi - HT.Ge xs.length 0 lo)
theorem Ap (xs:List V) (lo hi:Option Int):(xi xs lo hi).length<=xs.length:=by
 unfold xi;rw[cT,KS]
 lia
end
def KO (n:Nat) (i:Int):Option Nat:=if 0<=i then (if i < n then some i.toNat else none) else if -(n:Int)<=i then some (i+n).toNat else none
def IA {α:Type} (xs:List α) (i:Int):Option α:=(KO xs.length i).bind λj=>xs[j]?
theorem Jr {n:Nat} {i:Int} {j:Nat} (h:KO n i=some j):seqIndex? i n=some j/\j < n/\-(n:Int)<=i/\i < n:=by
 unfold KO at h;by_cases h0:0<=i
 ·rw[if_pos h0] at h;by_cases h1:i < n
  ·rw[if_pos h1] at h;have e:i.toNat=j:=ck h;exact ⟨by rw[seqIndex_of h0 h1,e],by lia,by lia,h1⟩
  ·rw[if_neg h1] at h;cases h
 ·rw[if_neg h0] at h;by_cases h1:-(n:Int)<=i
  ·rw[if_pos h1] at h;have e:(i+n).toNat=j:=ck h;exact ⟨by rw[seqIndex_neg (by lia) h1,e],by lia,h1,by lia⟩
  ·rw[if_neg h1] at h;cases h
theorem Fd {α:Type} {xs:List α} {i:Int} {v:α} (h:IA xs i=some v):∃j,seqIndex? i xs.length=some j/\xs[j]?=some v/\j < xs.length/\-(xs.length:Int)<=i/\i < xs.length:=by
 unfold IA at h;cases e:KO xs.length i with
 | none=>rw[e] at h;cases h
 | some j =>
  rw[e] at h;obtain ⟨h1,h2,h3,h4⟩:=Jr e;exact ⟨j,h1,h,h2,h3,h4⟩
theorem fF {α:Type} {xs:List α} {j:Nat} {v:α} (h:xs[j]?=some v):IA xs (j:Int)=some v:=by
 have hj:j < xs.length:=(aB.mp h).1
 have e:KO xs.length (j:Int)=some j:=by
  unfold KO;rw[if_pos (by lia),if_pos (by lia)];simp
 unfold IA;rw[e];exact h
theorem zb {α:Type} (xs:List α) (v:α):IA (xs++[v]) (-1)=some v:=by
 have hl:(xs++[v]).length=xs.length+1:=by simp
 have e:KO (xs++[v]).length (-1)=some xs.length:=by
  unfold KO;rw[hl,if_neg (by decide),if_pos (by lia)];congr 1
  lia
 unfold IA;rw[e];show (xs++[v])[xs.length]?=some v
 simp
def OC (b:Expr):Prop:=∀o i,subscripted b false o i=operate [o,i] (getItem o i)
def Sj (X:Cx) (r:R2):Prop :=
 ∀(value slice:Expr) (pins:List (Addr×Obj)) (s:Shared) (σ:St) (H:Hp) (x y:V) (v u:Value) (Q:VK),Inv X pins σ H s->RelV x v->RelV y u->r x y H Q →
  subscripted slice false v u=operate [v,u] (getItem v u)->wpAny (model X.prog X.w) X.A (subscriptTail value slice v u) (EP X pins σ Q) X.xe s
def MtR (X:Cx) (id:String) (r:V->List V->Hp->VK->Prop):Prop :=
 ∀(pins:List (Addr×Obj)) (s:Shared) (σ:St) (H:Hp) (x:V) (xs:List V) (v:Value) (us:List Value) (Q:VK),Inv X pins σ H s->RelV x v->cU xs us->r x xs H Q →
  wpAny (model X.prog X.w) X.A (call (.builtin id) (v :: us)) (EP X pins σ Q) X.xe s
section
variable {X:Cx} {a b:Expr} {ta tb:TE} {pos:Pos}
theorem bw {r:R2} (hr:Sj X r) (ha:PE X a ta) (hb:PE X b tb) (hs:OC b:=by intro _ _;rfl):PE X (.Subscript a b pos) (Rb r ta tb):=by
 intro pins s σ H Q I h;exact Subscript_ (QD ha hb I h λv u s2 x y H2 I2 rx ry q=>hr a b pins s2 σ H2 x y v u Q I2 rx ry q (hs _ _))
def P9 (K:FG9):R2:=λx y H Q=>∃p xs i v,x=.ref p/\y=.int i/\bS K H p xs/\IA xs i=some v/\Q v H
def P8 (K:FG9):R2:=λx y H Q=>∃p xs i v,x=.ref p/\y=.int i/\lA K H p xs/\IA xs i=some v/\Q v H
theorem bV:Sj X (P9 X.K):=by
 intro value slice pins s σ H x y v u Q I rx ry h hs;obtain ⟨p,xs,i,z,rfl,rfl,hq,he,q⟩:=h;cases rx;obtain ⟨t,rfl⟩:=ry;obtain ⟨its,r,pl,hz⟩:=I.list hq;obtain ⟨j,h1,h2,h3,h4,h5⟩:=Fd he;obtain ⟨w,ew,rw'⟩:=r.get h2;have hl:=r.length;have hn:=Cj;have fin:EP X pins σ Q w s:=⟨z,H,I,rw',q⟩;by_cases h0:0<=i
 ·have hj:i.toNat=j:=by
   rw[seqIndex_of h0 h5] at h1;exact ck h1
  exact item_listR pl.isList h0 (by lia) (by rw[hj];simpa using ew) fin hs
 ·have hj:(i+(its.toArray.size:Int)).toNat=j:=by
   rw[seqIndex_neg (by lia) h4] at h1;rw[aL,<- hl];exact ck h1
  exact subscriptTail_builtinR (x:=w) pl.isList.typeIs slot_list_getitem.lookup
   (wpAny_getItem_list_neg (Q:=λr s'=>r=w/\EP X pins σ Q r s') pl.isList (by lia) (by rw[aL] <;> lia) (by lia) (by rw[hj];simpa using ew) ⟨rfl,fin⟩) hs
theorem bY:Sj X (P8 X.K):=by
 intro value slice pins s σ H x y v u Q I rx ry h hs;obtain ⟨p,xs,i,z,rfl,rfl,hq,he,q⟩:=h;cases rx;obtain ⟨t,rfl⟩:=ry;obtain ⟨its,r,pl,hz⟩:=I.tuple hq;obtain ⟨j,h1,h2,h3,h4,h5⟩:=Fd he;obtain ⟨w,ew,rw'⟩:=r.get h2;have hl:=r.length;have hn:=Cj;have fin:EP X pins σ Q w s:=⟨z,H,I,rw',q⟩
 exact subscriptTail_builtinR (x:=w) pl.typeIs slot_tuple_getitem.lookup
  (getItem_tuple (j:=j) (Q:=λr s'=>r=w/\EP X pins σ Q r s') pl (by lia) (by lia) (by rw[aL,<- hl];exact h1) (by simpa using ew) ⟨rfl,fin⟩) hs
theorem Ii (its:List Value) (n j:Nat) (u:Value):Obj.mapSeq (·.setIfInBounds j u) { cls:=.type "list",data:=.seq its.toArray n }={ cls:=.type "list",data:=.seq (its.set j u).toArray n }:=by
 simp [Obj.mapSeq]
theorem Inv.lst {pins:List (Addr×Obj)} {σ:St} {H:Hp} {s:Shared} {p:Addr} {xs:List V} (I:Inv X pins σ H s) (h:H p=some (.lst xs)) :
  ∃(its:List Value) (n:Nat),cU xs its/\s.heap.get? p=some { cls:=.type "list",data:=.seq its.toArray n }/\xs.length<=sizeLine:=by
 obtain ⟨z,its,n,r,e⟩:=I.hok p _ h;exact ⟨its,n,r,e,z⟩
theorem Inv.lstUpd {pins:List (Addr×Obj)} {σ:St} {H:Hp} {s:Shared} {p:Addr} {xs ys:List V} {its its':List Value} {n n':Nat} {f:Obj->Obj} (I:Inv X pins σ H s) (h:H p=some (.lst xs))
  (ho:s.heap.get? p=some { cls:=.type "list",data:=.seq its.toArray n }) (hf:f { cls:=.type "list",data:=.seq its.toArray n }={ cls:=.type "list",data:=.seq its'.toArray n' }) (r:cU ys its') (hz:ys.length<=sizeLine) (t:Nat) :
  Inv X pins σ (upd H p (.lst ys)) { s with heap:=s.heap.update p f,toks:=t }:=by
 have e:(s.heap.update p f).get? p=some { cls:=.type "list",data:=.seq its'.toArray n' }:=by
  rw[Heap.get?_update_self f ho (by rw[hf] <;> rfl),hf]
 refine I.write (x:=p) (e:=p) (by rw[h];trivial) (.inl rfl) (λb u hb q=>(Heap.get?_update_other _ _ (Ne.symm hb)).trans q) ⟨_,e⟩ ?_;exact ⟨hz,its',n',r,e⟩
def OR:V->V->V->Hp->(Hp->Prop)->Prop:=λo i v H Q=>∃p xs k j,o=.ref p/\i=.int k/\H p=some (.lst xs)/\KO xs.length k=some j/\Q (upd H p (.lst (xs.set j v)))
theorem set_list:QF X OR:=by
 intro pins s σ H o i v ov iv u Q I ro ri rv h;obtain ⟨p,xs,k,j,rfl,rfl,hp,hj,q⟩:=h;cases ro;obtain ⟨t,rfl⟩:=ri;obtain ⟨its,n,r,ho,hz⟩:=I.lst hp;obtain ⟨h1,h2,h3,h4⟩:=Jr hj;have hl:=r.length;have hn:=Cj
 have I':Inv X pins σ (upd H p (.lst (xs.set j v))) { s with heap:=s.heap.update p (Obj.mapSeq (·.setIfInBounds j u)) } :=
  I.lstUpd hp ho (Ii its n j u) (r.set rv j) (by rw[dY];exact hz) s.toks
 by_cases h0:0<=k
 ·have hk:k.toNat=j:=by
   rw[seqIndex_of h0 h4] at h1;exact ck h1
  exact PySem.W.ki_setAt ho h0 (by lia) (by rw[aL,<- hl];exact h4) (by rw[hk];exact ⟨_,I',q⟩)
 ·have hk:(k+(its.toArray.size:Int)).toNat=j:=by
   rw[seqIndex_neg (by lia) h3] at h1;rw[aL,<- hl];exact ck h1
  exact PySem.W.ki_setBack ho (by lia) (by rw[aL,<- hl];exact h3) (by lia) (by rw[hk];exact ⟨_,I',q⟩)
theorem Ek (lo hi:Option Int) (n:Nat):(sliceBounds lo hi none n).1=((HT.Ge n 0 lo:Nat):Int)/\(sliceBounds lo hi none n).2.1=((HT.Ge n n hi:Nat):Int)/\(sliceBounds lo hi none n).2.2=1:=by
 refine ⟨?_,?_,rfl⟩
 ·cases lo with
  | none=>simp [sliceBounds,HT.Ge]
  | some i =>
   simp only[sliceBounds,HT.Ge,Option.getD_none,show (1:Int) > 0 by decide,if_true];by_cases h:i < 0
   ·simp only[h,if_true] <;> lia
   ·simp only[h,if_false] <;> lia
 ·cases hi with
  | none=>simp [sliceBounds,HT.Ge]
  | some i =>
   simp only[sliceBounds,HT.Ge,Option.getD_none,show (1:Int) > 0 by decide,if_true];by_cases h:i < 0
   ·simp only[h,if_true] <;> lia
   ·simp only[h,if_false] <;> lia
theorem CM (its:List Value) (lo hi:Option Int):slicePick its.toArray lo hi none=((its.drop (HT.Ge its.length 0 lo)).take (HT.Ge its.length its.length hi - HT.Ge its.length 0 lo)).toArray:=by
 obtain ⟨h1,h2,h3⟩:=Ek lo hi its.toArray.size;unfold slicePick;rw[h1,h2,h3];simp only[sliceRange_one,pick_run,aL] <;> rfl
def P7 (K:FG9):V->Option Int->Option Int->Hp->VK->Prop:=λx lo hi H Q=>∃a xs,x=.ref a/\bS K H a xs/\∀p,H p=none->Q (.ref p) (upd H p (.lst (xi xs lo hi)))
theorem El:S9 X (P7 X.K):=by
 intro pins s σ H x v vl vu lo hi sl Q I rx hs pl pu h;obtain ⟨a,xs,rfl,hx,q⟩:=h;cases rx;obtain ⟨its,r,ht,hz⟩:=I.list hx;have hlen:=r.length;refine ⟨"list",_,slot_list_getitem.lookup,ht.isList.typeIs,?_⟩;refine wpAny_getItem_list_slice ht.isList hs pl pu .none (by simp) ?_ (by rw[aL] <;> lia);rw[CM,<- hlen];refine ⟨.ref s.heap.objs.size,_,I.laid (t':=s.toks) (o:=.lst (xi xs lo hi)) (λb ob q=>Heap.get?_push_of_some _ q) (ak _) ?_,rfl,q _ (I.hok.fresh (ak _))⟩;exact ⟨ai (Ap xs lo hi) hz,_,0,(r.drop (HT.Ge xs.length 0 lo)).take (HT.Ge xs.length xs.length hi - HT.Ge xs.length 0 lo),Heap.get?_push_size _ rfl⟩
def p7:V->Bool
 | .non=>true
 | .bl _=>true
 | .int _=>true
 | .str _=>true
 | _=>false
def O3:V->V->Bool
 | .non,.non=>true
 | .bl a,.bl b=>a == b
 | .bl a,.int b=>(if a then 1 else 0) == b
 | .int a,.bl b=>a == (if b then 1 else 0)
 | .int a,.int b=>a == b
 | .str a,.str b=>a == b
 | _,_=>false
theorem Qw {A:Around} {s:Shared} {y x:V} {u v:Value} (ry:RelV y u) (rx:RelV x v) (fy:p7 y=true) (fx:p7 x=true):SeqAt.EqAt A s u v (O3 y x):=by
 cases y with
 | non =>
  cases ry;cases x with
  | non=>cases rx;exact SeqAt.EqAt.same _
  | bl b=>cases rx;exact SeqAt.EqAt.none_bool b
  | int b=>obtain ⟨t,rfl⟩:=rx;exact SeqAt.EqAt.none_int b t
  | str b=>obtain ⟨t,rfl⟩:=rx;exact SeqAt.EqAt.none_str b t
  | _=>exact absurd (show false=true from fx) bg
 | bl a =>
  cases ry;cases x with
  | non=>cases rx;exact SeqAt.EqAt.bool_none a
  | bl b=>cases rx;exact SeqAt.EqAt.bool_bool a b
  | int b=>obtain ⟨t,rfl⟩:=rx;exact SeqAt.EqAt.bool_int a b t
  | str b=>obtain ⟨t,rfl⟩:=rx;exact SeqAt.EqAt.bool_str a b t
  | _=>exact absurd (show false=true from fx) bg
 | int a =>
  obtain ⟨t',rfl⟩:=ry;cases x with
  | non=>cases rx;exact SeqAt.EqAt.int_none a t'
  | bl b=>cases rx;exact SeqAt.EqAt.int_bool a t' b
  | int b=>obtain ⟨t,rfl⟩:=rx;exact SeqAt.EqAt.int_int a t' b t
  | str b=>obtain ⟨t,rfl⟩:=rx;exact SeqAt.EqAt.int_str a t' b t
  | _=>exact absurd (show false=true from fx) bg
 | str a =>
  obtain ⟨t',rfl⟩:=ry;cases x with
  | non=>cases rx;exact SeqAt.EqAt.str_none a t'
  | bl b=>cases rx;exact SeqAt.EqAt.str_bool a t' b
  | int b=>obtain ⟨t,rfl⟩:=rx;exact SeqAt.EqAt.str_int a t' b t
  | str b=>obtain ⟨t,rfl⟩:=rx;exact SeqAt.EqAt.str_str a t' b t
  | _=>exact absurd (show false=true from fx) bg
 | _=>exact absurd (show false=true from fy) bg
def Om (x:V) (u:Value):Bool:=match u with
 | .none=>O3 .non x
 | .bool b=>O3 (.bl b) x
 | .int i _=>O3 (.int i) x
 | .str z _=>O3 (.str z) x
 | _=>false
theorem Mt {x y:V} {u:Value} (r:RelV y u) (f:p7 y=true):Om x u=O3 y x:=by
 cases y with
 | non=>cases r;rfl
 | bl b=>cases r;rfl
 | int i=>obtain ⟨t,rfl⟩:=r;rfl
 | str z=>obtain ⟨t,rfl⟩:=r;rfl
 | _=>exact absurd (show false=true from f) bg
theorem Ff {x:V}:∀{xs:List V} {us:List Value},cU xs us->xs.all p7=true->us.any (Om x)=xs.any λy=>O3 y x
 | _,_,.nil,_=>rfl
 | y :: xs,u :: us,.cons r t,f=>by
  rw[Q0,eh] at f;rw[List.any_cons,List.any_cons,Mt r f.1,Ff t f.2]
theorem Ce {A:Around} {s:Shared} {x:V} {v:Value} (rx:RelV x v) (fx:p7 x=true):∀{xs:List V} {us:List Value},cU xs us->xs.all p7=true->∀u∈us,SeqAt.EqAt A s u v (Om x u)
 | _,_,.nil,_=>λu hu=>by cases hu
 | y :: xs,u :: us,.cons r t,f=>λu' hu=>by
  rw[Q0,eh] at f;rcases aD.mp hu with rfl | hu
  ·rw[Mt r f.1];exact Qw r rx f.1 fx
  ·exact Ce rx fx t f.2 u' hu
def Sw (x:V) (xs:List V):Bool:=xs.any λy=>O3 y x
def rIn (K:FG9) (neg:Bool):R2:=λx y H Q=>∃p xs,y=.ref p/\(bS K H p xs\/lA K H p xs)/\p7 x=true/\xs.all p7=true/\Q (.bl (if neg then !Sw x xs else Sw x xs)) H
theorem Kf:Aa X (compareOp .In) (rIn X.K false):=by
 intro pins s σ H x y v u Q I rx ry h;obtain ⟨p,xs,rfl,hq,fx,fs,q⟩:=h;cases ry;rcases hq with hq | hq
 ·obtain ⟨its,r,pl,hz⟩:=I.list hq;refine SeqAt.in_listAt (Om x) pl.isList (λw hw=>Ce rx fx r fs w (by simpa using hw)) ⟨.bl _,H,I,rfl,?_⟩;rw[show its.toArray.any (Om x)=its.any (Om x) by simp,Ff r fs];exact q
 ·obtain ⟨its,r,pl,hz⟩:=I.tuple hq;refine SeqAt.in_tupleAt (Om x) pl (λw hw=>Ce rx fx r fs w (by simpa using hw)) ⟨.bl _,H,I,rfl,?_⟩;rw[show its.toArray.any (Om x)=its.any (Om x) by simp,Ff r fs];exact q
theorem aZ:rz X (.builtin "len") (λxs H Q=>∃p ys,xs=[.ref p]/\(bS X.K H p ys\/lA X.K H p ys)/\Q (.int ys.length) H):=by
 intro pins s σ H xs us Q I r h;obtain ⟨p,ys,rfl,hq,q⟩:=h;obtain ⟨u,rfl,rx⟩:=vals1 r;cases rx;have hn:=Cj;rcases hq with hq | hq
 ·obtain ⟨its,r',pl,hz⟩:=I.list hq;have hlen:=r'.length;exact Calls.call_len_list pl.isList (by simp only[aL] <;> lia) ⟨.int ys.length,H,I.tok _,⟨s.toks+1,by rw[aL,hlen]⟩,q⟩
 ·obtain ⟨its,r',pl,hz⟩:=I.tuple hq;have hlen:=r'.length;exact len_tuple pl (by simp only[aL] <;> lia) ⟨.int ys.length,H,I.tok _,⟨s.toks+1,by rw[aL,hlen]⟩,q⟩
theorem tR:rz X (.type "list") (λxs H Q=>∃p ys,xs=[.ref p]/\(bS X.K H p ys\/lA X.K H p ys)/\∀l,H l=none->Q (.ref l) (upd H l (.lst ys))):=by
 intro pins s σ H xs us Q I r h;obtain ⟨p,ys,rfl,hq,q⟩:=h;obtain ⟨u,rfl,rx⟩:=vals1 r;cases rx
 have fin:∀(its:List Value),cU ys its->ys.length<=sizeLine->∀(h':Heap) (c':Nat),(∀b o',s.heap.get? b=some o'->h'.get? b=some o') →
   h'.get? s.heap.objs.size=some { cls:=.type "list",dict:=none,data:=.seq its.toArray c',slots:=#[] }->EP X pins σ Q (.ref s.heap.objs.size) { s with heap:=h' }:=λits r' hz h' c' kp e =>
  ⟨.ref s.heap.objs.size,_,I.laid (t':=s.toks) kp (ak _) (show fZ X.prog X.w _ h' _ (.lst ys) from ⟨hz,its,c',r',e⟩),rfl,q _ (I.hok.fresh (ak _))⟩
 rcases hq with hq | hq
 ·obtain ⟨its,r',pl,hz⟩:=I.list hq;have hlen:=r'.length;obtain ⟨o,ho,hc,n,hd⟩:=pl.isList;exact call_list_seq p (.inl rfl) ho hc hd (λh' c' kp e=>fin its r' hz h' c' kp e) (by simp only[aL] <;> lia)
 ·obtain ⟨its,r',pl,hz⟩:=I.tuple hq;have hlen:=r'.length;obtain ⟨o,ho,hc,n,hd⟩:=pl;exact call_list_seq p (.inr rfl) ho hc hd (λh' c' kp e=>fin its r' hz h' c' kp e) (by simp only[aL] <;> lia)
theorem C8:rz X (.type "tuple") (λxs H Q=>∃p ys,xs=[.ref p]/\((bS X.K H p ys/\∀l,H l=none->Q (.ref l) (upd H l (.tup ys)))\/(lA X.K H p ys/\Q (.ref p) H))):=by
 intro pins s σ H xs us Q I r h;obtain ⟨p,ys,rfl,h⟩:=h;obtain ⟨u,rfl,rx⟩:=vals1 r;cases rx;rcases h with ⟨hq,q⟩ | ⟨hq,q⟩
 ·obtain ⟨its,r',pl,hz⟩:=I.list hq;have hlen:=r'.length;refine call_tuple_list pl.isList (λh' kp=>?_) (by simp only[aL] <;> lia);have I1:Inv X pins σ H { s with heap:=h' }:=I.kept (t':=s.toks) kp
  have I2:Inv X pins σ (upd H h'.objs.size (.tup ys)) { s with heap:=h'.push { cls:=.type "tuple",data:=.seq its.toArray } } :=
   I1.laid (t':=s.toks) (λb o e=>Heap.get?_push_of_some _ e) (ak _) (show fZ X.prog X.w _ _ _ (.tup ys) from ⟨hz,its,r',IsTup.new _ _⟩)
  exact ⟨.ref h'.objs.size,_,I2,rfl,q _ (I1.hok.fresh (ak _))⟩
 ·obtain ⟨its,r',pl,hz⟩:=I.tuple hq;exact call_tuple_same pl ⟨.ref p,H,I,rfl,q⟩
def SN (K:FG9) (T:String) (x:V) (H:Hp):Prop:=match x with
 | .str _=>T="str"
 | .int _=>T="int"
 | .ref p=>(T="list"/\∃xs,bS K H p xs)\/(T="tuple"/\∃o,K.lookup p=some o/\o.cls=.type "tuple"/\o.dict=none) \/
   (T="dict"/\((∃kvs,H p=some (.dK kvs))\/∃kvs,H p=some (.dT kvs)))\/(T="set"/\∃S n,H p=some (.set S n))
 | _=>False
theorem Pd {pins:List (Addr×Obj)} {σ:St} {H:Hp} {s:Shared} {T:String} {x:V} {v:Value} (I:Inv X pins σ H s) (r:RelV x v) (ty:SN X.K T x H) :
  s.TypeIs v T/\∀a,v=.ref a->∃ob,s.heap.get? a=some ob/\ob.dict=none:=by
 cases x with
 | str z =>
  obtain ⟨t,rfl⟩:=r;cases (show T="str" from ty);exact ⟨typeIs_str s z t,λ_ e=>nomatch e⟩
 | int i =>
  obtain ⟨t,rfl⟩:=r;cases (show T="int" from ty);exact ⟨typeIs_int s i t,λ_ e=>nomatch e⟩
 | ref p =>
  cases r;rcases ty with ⟨rfl,xs,hq⟩ | ⟨rfl,o,hk,hc,hd⟩ | ⟨rfl,hk⟩ | ⟨rfl,S,n,hk⟩
  ·obtain ⟨its,_,pl,_⟩:=I.list hq;refine ⟨pl.isList.typeIs,λa e=>?_⟩;cases e;obtain ⟨o,n,e,c,hd,_⟩:=pl;exact ⟨o,e,hd⟩
  ·refine ⟨⟨o,I.kIn p o hk,hc⟩,λa e=>?_⟩;cases e;exact ⟨o,I.kIn _ o hk,hd⟩
  ·have z:∃o,s.heap.get? p=some o/\o.ExactDict:=by
    rcases hk with ⟨kvs,hk⟩ | ⟨kvs,hk⟩
    ·obtain ⟨_,_,_,_,o,_,_,e,ex,_⟩:=I.hok p _ hk;exact ⟨o,e,ex⟩
    ·obtain ⟨_,_,_,_,o,_,_,e,ex,_⟩:=I.hok p _ hk;exact ⟨o,e,ex⟩
   obtain ⟨o,e,ex⟩:=z;refine ⟨⟨o,e,ex.1⟩,λa e2=>?_⟩;cases e2;exact ⟨o,e,ex.2.1⟩
  ·obtain ⟨o,_,_,_,e,ex,_⟩:=I.hok p _ hk;refine ⟨⟨o,e,ex.1⟩,λa e2=>?_⟩;cases e2;exact ⟨o,e,ex.2.1⟩
 | _=>exact False.elim ty
def tBM (K:FG9) (T:String) (r:V->List V->Hp->VK->Prop) (to:TE) (t:TA):TE:=λσ H Q=>to σ H λx H1=>SN K T x H1/\t σ H1 λxs H2=>r x xs H2 Q
variable {o e:Expr} {es:List Expr} {to:TE} {t:TA} {name:Str} {apos cpos:Pos} {T id:String} {r:V->List V->Hp->VK->Prop}
theorem yt (pa:PlainAttrs T) (slot:Slot T name id) (hty:typeOf (.builtin id)=pure (.type "method_descriptor")) (hm:MtR X id r) (ho:PE X o to) (ha:PA X (e :: es) t)
  (hbase:attributeBase o name X.env (eval o X.env)=eval o X.env:=by rfl)
  (hfew:((backTo cpos (starEach (e :: es) X.env)).all (λx=>!x.1) && (backToKw cpos (keywordEach [] X.env)).all (λx=>x.1.isSome)
   && decide ((e :: es).length+([]:List Keyword).length+(if ([]:List Keyword).isEmpty then 0 else 1) < 30))=true:=by rfl)
  (hline:(apos.endLine == cpos.line)=true:=by rfl) (hs:starEach (e :: es) X.env=(false,eval e X.env) :: starEach es X.env:=by rfl) (hplain:(backTo cpos (starEach es X.env)).any (·.1)=false:=by rfl) :
  PE X (.Call (.Attribute o name apos) (e :: es) [] cpos) (tBM X.K T r to t):=by
 intro pins s σ H Q I h;refine wpAny_Call_method_late hbase hfew hline rfl (fR (ho pins s σ H _ I h) λv s1 ⟨x,H1,I1,r1,ty,q1⟩=>?_);obtain ⟨h1,h2⟩:=Pd I1 r1 ty;refine ⟨T,id,pa,slot,hty,h1,h2,?_⟩;have hA:=ha cpos pins s1 σ H1 _ I1 q1;rw[hs] at hA ⊢;refine Calls.callWith_builtin (by show (false || (backTo cpos (starEach es X.env)).any (·.1))=false;rw[hplain] <;> rfl) (Calls.evalArgs_plain ?_);exact fR hA λus s2 ⟨vs,H2,I2,r2,q2⟩=>hm pins s2 σ H2 x vs v us Q I2 r1 r2 q2
end
def MtM (X:Cx) (id:String) (r:V->List V->Hp->VK->Prop):Prop :=
 ∀(pins:List (Addr×Obj)) (s:Shared) (σ:St) (H:Hp) (x:V) (xs:List V) (v:Value) (us:List Value) (Q:VK),Inv X pins σ H s->RelV x v->cU xs us->r x xs H Q →
  wpAny (model X.prog X.w) X.A (call (.builtin id) (v :: us)) (EP X pins σ Q) X.xe s
theorem cU.one:∀{x:V} {us:List Value},cU [x] us->∃u,us=[u]/\RelV x u
 | _,_,.cons r .nil=>⟨_,rfl,r⟩
theorem cU.rep {xs:List V} {us:List Value} (h:cU xs us):∀k:Nat,cU (List.replicate k xs).flatten (List.replicate k us).flatten
 | 0=>.nil
 | k+1=>by
  rw[nU,nU,iu,iu];exact cU.append h (cU.rep h k)
theorem foldl_rep (its:List Value):∀(k:Nat) (acc:List Value),
  List.foldl (λx1 x2=>x1++x2) acc.toArray (List.replicate k its.toArray)=(acc++(List.replicate k its).flatten).toArray
 | 0,acc=>by simp
 | k+1,acc=>by
  have e:acc.toArray++its.toArray=(acc++its).toArray:=by simp
  have e2:(acc++its)++(List.replicate k its).flatten=acc++(List.replicate (k+1) its).flatten:=by
   rw[nU,iu,cF]
  rw[<- e2,<- foldl_rep its k (acc++its),<- e,nU,List.foldl_cons]
section
variable {X:Cx} {pins:List (Addr×Obj)} {σ:St} {H:Hp} {s:Shared} {l b:Addr} {xs ys zs:List V}
theorem Inv.lset {its its':List Value} {n:Nat} {f:Array Value->Array Value} {t':Nat} (I:Inv X pins σ H s) (hH:H l=some (.lst xs))
  (e:s.heap.get? l=some { cls:=.type "list",data:=.seq its.toArray n }) (hf:f its.toArray=its'.toArray) (hv:cU ys its') (hz:ys.length<=sizeLine) :
  Inv X pins σ (upd H l (.lst ys)) { s with heap:=s.heap.update l (Obj.mapSeq f),toks:=t' }:=by
 have q:=nA e f;rw[hf] at q;refine I.write (x:=l) (e:=l) (by rw[hH];exact trivial) (.inl rfl) (λb' u hb hu=>(Heap.get?_update_other s.heap (Obj.mapSeq f) (Ne.symm hb)).trans hu) ⟨_,q⟩ ?_;exact ⟨hz,its',_,hv,q⟩
theorem Inv.lnew {its:List Value} {t':Nat} (I:Inv X pins σ H s) (hv:cU ys its) (hz:ys.length<=sizeLine) :
  Inv X pins σ (upd H s.heap.objs.size (.lst ys)) { s with heap:=s.heap.push { cls:=.type "list",data:=.seq its.toArray },toks:=t' } :=
 I.laid (λ_ _ q=>Heap.get?_push_of_some _ q) (ak _) ⟨hz,its,0,hv,Heap.get?_push_size _ rfl⟩
theorem Inv.fresh (I:Inv X pins σ H s):H s.heap.objs.size=none:=I.hok.fresh (ak _)
theorem Inv.lstM (I:Inv X pins σ H s) (hH:H l=some (.lst xs)):xs.length<=sizeLine/\∃(its:List Value) (n:Nat),cU xs its/\xs.length=its.length/\s.heap.get? l=some { cls:=.type "list",data:=.seq its.toArray n }:=by
 obtain ⟨z,its,n,r,e⟩:=I.hok l _ hH;exact ⟨z,its,n,r,r.length,e⟩
theorem Gv {n:Nat} (h:n<=sizeLine):Builtin.List.listTooLong n=false:=by
 unfold Builtin.List.listTooLong;exact decide_eq_false (by lia)
end
section
variable {X:Cx}
def Jd:V->List V->Hp->VK->Prop:=λx vs H Q=>∃l xs y,x=.ref l/\vs=[y]/\H l=some (.lst xs)/\xs.length < sizeLine/\Q .non (upd H l (.lst (xs++[y])))
theorem kd:MtM X "list.append" Jd:=by
 intro pins s σ H x vs v us Q I rx rv h;obtain ⟨l,xs,y,rfl,rfl,hH,hz,q⟩:=h;cases rx;obtain ⟨u,rfl,ru⟩:=rv.one;obtain ⟨z,its,n,r,hl,e⟩:=I.lstM hH;refine call_meets F.slot_list_append ⟨_,e,rfl⟩ F.entry_list_append (F.args_list_append_2 _ _) (PySem.list_append l its.toArray n u (by rw[aL];lia)) ⟨e,?_⟩;refine ⟨.non,_,I.lset (its':=its++[u]) hH e (by simp) (r.append (.cons ru .nil)) ?_,rfl,q⟩;rw[av,bB]
 lia
def NZ:V->List V->Hp->VK->Prop:=λx vs H Q=>∃l b xs zs,x=.ref l/\vs=[.ref b]/\H l=some (.lst xs)/\H b=some (.lst zs)/\xs.length+zs.length<=sizeLine/\Q .non (upd H l (.lst (xs++zs)))
theorem Km:MtM X "list.extend" NZ:=by
 intro pins s σ H x vs v us Q I rx rv h;obtain ⟨l,b,xs,zs,rfl,rfl,hH,hB,hz,q⟩:=h;cases rx;obtain ⟨u,rfl,ru⟩:=rv.one;cases ru;obtain ⟨z,its,n,r,hl,e⟩:=I.lstM hH;obtain ⟨z2,its2,n2,r2,hl2,e2⟩:=I.lstM hB;have hsz:its.toArray.size+its2.toArray.size<=sizeLine:=by rw[aL,aL];lia
 have hlong:¬(!its.toArray.isEmpty && Builtin.List.listTooLong (its.toArray.size+its2.toArray.size))=true:=by
  rw[Gv hsz,Bool.and_false];exact bg
 refine call_meets F.slot_list_extend ⟨_,e,rfl⟩ F.entry_list_extend (F.args_list_extend_2 _ _)
  (AutoSeq1.list_extend_list_list_0 l its.toArray n b its2.toArray n2 hlong (by rw[aL];lia) (by lia)) ⟨e,e2,?_⟩
 refine ⟨.non,_,I.lset (its':=its++its2) hH e (by simp) (r.append r2) ?_,rfl,q⟩;rw[av]
 lia
def RN:R2:=λx y H Q=>∃l b xs zs,x=.ref l/\y=.ref b/\H l=some (.lst xs)/\H b=some (.lst zs)/\xs.length+zs.length<=sizeLine/\∀p,H p=none->Q (.ref p) (upd H p (.lst (xs++zs)))
theorem kG:Aa X (binaryOp .Add) RN:=by
 intro pins s σ H x y v u Q I rx ry h;obtain ⟨l,b,xs,zs,rfl,rfl,hH,hB,hz,q⟩:=h;cases rx;cases ry;obtain ⟨z,its,n,r,hl,e⟩:=I.lstM hH;obtain ⟨z2,its2,n2,r2,hl2,e2⟩:=I.lstM hB;refine PySem.P.add_list e e2 ?_ (by rw[aL,aL];lia);have ea:its.toArray++its2.toArray=(its++its2).toArray:=by simp
 rw[ea];exact ⟨.ref _,_,I.lnew (t':=s.toks) (r.append r2) (by rw[av];lia),rfl,q _ I.fresh⟩
def RL:R2:=λx y H Q=>∃l k xs,x=.ref l/\y=.int k/\H l=some (.lst xs)/\-(2^63)<=k/\k < 2^63/\xs.length*k.toNat<=sizeLine /\
 ∀p,H p=none->Q (.ref p) (upd H p (.lst (List.replicate k.toNat xs).flatten))
theorem len_rep {α:Type} (xs:List α) (k:Nat):(List.replicate k xs).flatten.length=k*xs.length:=by
 induction k with
 | zero=>simp
 | succ k ih=>rw[nU,iu,av,ih,dI,xg]
theorem LJ:Aa X (binaryOp .Mult) RL:=by
 intro pins s σ H x y v u Q I rx ry h;obtain ⟨l,k,xs,rfl,rfl,hH,h1,h2,hz,q⟩:=h;cases rx;obtain ⟨t,rfl⟩:=ry;obtain ⟨z,its,n,r,hl,e⟩:=I.lstM hH;have hlen:its.toArray.size*k.toNat<=sizeLine:=by rw[aL,<- hl];exact hz
 have hcap:¬its.toArray.size*k.toNat > (2^63 - 1) / 8:=by
  have:(sizeLine:Nat)<=(2^63 - 1) / 8:=by decide
  lia
 have hfit:¬(!Builtin.List.listFitsIndex k)=true:=by
  rw[fitsIndex_both h1 h2];exact bg
 have hlong:¬Builtin.List.listTooLong (its.toArray.size*k.toNat)=true:=by
  rw[Gv hlen];exact bg
 have hnew:List.foldl (λx1 x2=>x1++x2) #[] (List.replicate (if its.toArray.isEmpty=true then 0 else k.toNat) its.toArray)=(List.replicate k.toNat its).flatten.toArray:=by
  have f0:∀m:Nat,List.foldl (λx1 x2=>x1++x2) #[] (List.replicate m its.toArray)=(List.replicate m its).flatten.toArray:=λm=>by
   have:=foldl_rep its m [];rw[cY] at this;exact this
  rw[f0];cases its with
  | nil=>simp
  | cons a r'=>rw[if_neg (by simp)]
 refine wpAny_binaryOp_repeat_ref (T:="list") (U:="int") (by decide) ⟨_,e,rfl⟩ (λs'=>typeIs_int s' k t) noFill_list_mul F.fills_int_mul F.slot_int_rmul repeat_list F.slot_int_index.lookup
  (call_meets F.slot_int_rmul (typeIs_int s k t) F.entry_int_rmul (F.args_int_rmul_2 _ _) (int___rmul___int_list k t l its.toArray n)
   ⟨e,rfl,⟨_,e,rfl⟩,call_meets F.slot_list_mul ⟨_,e,rfl⟩ F.entry_list_mul (F.args_list_mul_2 _ _) (AutoListH.list___mul___list_int_3 l its.toArray n k t hfit hcap hlong) ⟨e,?_⟩⟩)
 rw[hnew];exact ⟨.ref _,_,I.lnew (t':=s.toks) (r.rep k.toNat) (by rw[len_rep,b6];exact hz),rfl,q _ I.fresh⟩
end
end L2
namespace Att
open PySem PySem.W PySem.Calls PyProof.Rows
theorem AQ {P:Params} {h:Heap}:∀(ns:List Int) (vs:List Value),WellAll P h vs (ns.map WData.int)->IntsAre vs ns:=by
 intro ns
 induction ns with
 | nil =>
  intro vs w;rw[List.map_nil] at w;cases w;exact .nil
 | cons n ns ih =>
  intro vs w;rw[iD] at w;cases w with
  | cons a b =>
   cases a;exact .cons _ _ (ih _ b)
theorem JZ {l:OpenLaw} {n:Nat} (hn:l.most=some n) {P:Params} {h:Heap} {args:List WData} {vals:List Value}
  (hpre:l.row.toRowW.claim.pre args=true) (hwl:WellAll P h vals args) :
  ∃a vs ns,vals=[Value.ref a]/\args=[WData.list (ns.map WData.int)]/\h.get? a=some { cls:=.type "list",data:=.seq vs.toArray }/\IntsAre vs ns/\ns.length<=n:=by
 have hsh:WShape.hasAll [] args [.list .int]=true:=(pre_splitW hpre).1;have hc:l.pre.holds [] { args:=args }=true:=(pre_splitW hpre).2;obtain ⟨d,r,rfl,h1,h2⟩:=hasAllW_cons hsh;obtain rfl:=hasAllW_nil h2;obtain ⟨xs,rfl,h3⟩:=hasW_list h1;obtain ⟨ns,rfl⟩:=items_int h3
 have hlen:ns.length<=n:=by
  unfold OpenLaw.pre at hc
  have h4:(WTm.not (.lt (.lit (.int (n:Int))) (.len (.arg 0)))).holds [] { args:=[.list (ns.map .int)] }=true:=by
   have h4:=(holds_andW hc).1;rw[hn] at h4;exact h4
  have h5:=condW_of h4 (w_not (w_lt w_lit (w_len_list (w_arg rfl))));rw[ao] at h5;refine Nat.le_of_not_lt λq=>?_
  have q':(n:Int) < ((ns.length:Nat):Int):=by lia
  first
   | (rw[decide_eq_true q'] at h5;exact absurd h5 (by decide))
   | (simp at h5;lia)
 cases hwl with
 | cons w1 w2 =>
  cases w2;cases w1 with
  | list ho hall=>exact ⟨_,_,ns,rfl,rfl,ho,AQ ns _ hall,hlen⟩
theorem Kc (l:OpenLaw) (args:List WData):l.row.toRowW.claim.post args (.bool true) args=true :=
 postW_of (r:=l.row.toRowW) (X:=(true == true))
  (show WShape.has [] (.bool true) .bool=true by first | rfl | decide | simp [WShape.has,WShape.arms,WShape.armsAll])
  (show (WTm.eq .res (.lit (.bool true))).value [] { args:=args,res:=some (.bool true),after:=args }=some (.bool (true == true)) from w_eq_bool (w_res rfl) w_lit) rfl
theorem Ho {l:OpenLaw} {n:Nat} {q:Program} {loose:List Str} {XP:(Str->Option Value)->Heap->Prop} {YP:World->Heap->Prop} {d:DefRec}
  (hn:l.most=some n) (hdf:d.params.defaults=[])
  (call:∀(w:World) (s₀ s₁:Shared) (mg mb:Str->Option Value) (fa:Addr) (o:Obj) (pm cd doc:Value) (a:Addr) (vs:List Value) (ns:List Int),
   Ground q loose [] XP w s₀ mg mb s₁.heap->YP w s₁.heap →
   s₁.heap.get? fa=some o->o.data=.func (docDef d.name d.params d.body d.scope pm cd doc)->s₁.heap.CodeRec cd d.name->mg d.name=some (.ref fa) →
   s₁.heap.get? a=some { cls:=.type "list",data:=.seq vs.toArray }->IntsAre vs ns->ns.length<=n->s₁.gens=#[] →
   codeAny (model l.prog w) callerA (.call (.ref fa) ⟨[.ref a],[]⟩) (λr s'=>r=.ok (.ret (.bool true))/\OldK s₁.heap s'.heap/\s'.os=s₁.os/\AllBare s'.gens) s₁) :
  WalkO q loose XP YP l.row.toRowW d [] (λf vs=>PySem.call f vs):=by
 intro w s₀ s₁ mg mb G Y fa o pm cd doc dV kV ho hd hcd hD hmg hg args vals as hpre hlay hrd hwl hlo;obtain rfl:dV=.none:=Dflts.none hD hdf;obtain rfl:kV=.none:=Dflts.noKw hD;obtain ⟨a,vs,ns,rfl,rfl,hobj,hints,hlen⟩:=JZ hn hpre hwl;refine enter_call (codeAny_mono (call w s₀ s₁ mg mb fa o pm cd doc a vs ns G Y ho (fd_plain hd) hcd hmg hobj hints hlen hg) λr s' hq=>?_);obtain ⟨rfl,h2,h3,h4⟩:=hq;exact ⟨.inl ⟨.bool true,.bool true,[],rfl,λ_=>rfl,.bool true,Kc l _,λ_=>⟨List.Pairwise.nil,λ_ hm=>(nomatch hm)⟩⟩,h2,h3,h4⟩
section
variable {prog:Program} {w:World} {A:Around} {E:Value->Shared->Prop} {s:Shared} {K:Frag}
end
end Att
namespace L2
open PySem PySem.Spec PyProof.Rows
theorem Dh:∀{vs:List Value} {ns:List Int},IntsAre vs ns->cU (ns.map V.int) vs
 | _,_,.nil=>.nil
 | _,_,.cons n t h=>.cons ⟨t,rfl⟩ (Dh h)
def QG (H:Hp):Prop:=∀b,H b=none\/∃o xs,H b=some (.frz o (.lst xs))
theorem L0 {P : Program} {w : World} {K : FG9} {mg mb : Str → Option Value} {CX : MX} {k : Nat} {fa a : Addr} {fd : FuncData} {x : Str} {sp : Sp} {s₁ : Shared} {vs : List Value} {ns : List Int}
    (KX : K.In s₁.heap) (hns : s₁.heap.Ns mainGlobals mg) (hb : s₁.heap.Ns builtinsNs mb) (hbb : ∀ x : Str, x ≠ "__name__" → mb x = bootBuiltins x) (hlim : s₁.heap.NoLimit) (hg : s₁.gens = #[])
    (ha : s₁.heap.get? a = some { cls := .type "list", data := .seq vs.toArray }) (hi : IntsAre vs ns) (hl : ns.length ≤ sizeLine) (hr : nY k callerA)
    (F : ∀ base : Heap, K.In base → base.Ns mainGlobals mg → cK P w K mg base CX k fa fd [x] sp) (hbind : ∀ (s : Shared) (u : Value), BindsTo s fd ⟨[u], []⟩ [(x, u)])
    (hsp : ∀ H : Hp, QG H → bS K H a (ns.map V.int) → sp [.ref a] H (λv _ => v = .bl true) λ_ _ _ => False)
    (hCX : ∀ H e s', CX [] H s₁ (λ_ _ _ => False) e s' → False) :
    codeAny (model P w) callerA (.call (.ref fa) ⟨[.ref a], []⟩) (λr s' => r = .ok (.ret (.bool true)) /\ OldK s₁.heap s'.heap /\ s'.os = s₁.os /\ AllBare s'.gens) s₁ := by
  have rv := Dh hi;have lenV := hi.length
  have core : ∀ H : Hp, QG H → bS K H a (ns.map V.int) → Bc P w H s₁.heap → (∀ b, H b ≠ none → b = a) → (H a ≠ none → K.lookup a = none) →
      codeAny (model P w) callerA (.call (.ref fa) ⟨[.ref a], []⟩) (λr s' => r = .ok (.ret (.bool true)) /\ OldK s₁.heap s'.heap /\ s'.os = s₁.os /\ AllBare s'.gens) s₁ := by
    intro H hO hS hok hA hK;have base_of : ∀ {b : Addr} {o : Obj}, s₁.heap.get? b = some o → H b = none → (EU s₁.heap H).get? b = some o := λe n => Me e n
    have noA : ∀ {b : Addr} {o : Obj} {es : Array DictEntry} {ep : Nat}, s₁.heap.get? b = some o → o.data = .dict es ep → H b = none := λ{b o es ep} e d => by
      cases q : H b with
      | none => rfl
      | some u =>
        have e' : b = a := hA b (by rw [q]; simp);subst e';rw [ha] at e; cases e;have d' : Data.seq vs.toArray _ = Data.dict es ep := d;cases d'
    have nsK : ∀ {b : Addr} {m : Str → Option Value}, s₁.heap.Ns b m → (EU s₁.heap H).Ns b m := λ{b m} ⟨o, es, ep, e, d, r⟩ => ⟨o, es, ep, base_of e (noA e d), d, r⟩
    have hKb : K.In (EU s₁.heap H) := λb o e => base_of (KX b o e) (by
      cases q : H b with
      | none => rfl
      | some u =>
        have e' : b = a := hA b (by rw [q]; simp);subst e';rw [hK (by rw [q]; simp)] at e; cases e)
    have hM : Mod K mg (EU s₁.heap H) := ⟨hKb, nsK hns, ⟨mb, nsK hb, hbb⟩, let ⟨mc, h1, h2⟩ := hlim; ⟨mc, nsK h1, h2⟩⟩;have e0 : IJ P w K mg (EU s₁.heap H) callerA [] s₁ H := ⟨rfl, hM, λb o e => Of e, Nat.le_of_eq (Kx _ _), trivial, λb hb => absurd (show b ∈ ([] : List Addr) from hb) (by simp), hok, .of_eq hg⟩;refine codeAny_mono ((F _ hKb (nsK hns)).run callerA [] s₁ H ⟨[.ref a], []⟩ [.ref a] [.ref a] _ _ hr e0 (hbind s₁ (.ref a)) (.cons rfl .nil) (hsp H hO hS)) λr s' h => ?_
    cases r with
    | error e => exact (hCX H e s' h).elim
    | ok fl =>
      cases fl with
      | next => exact False.elim h
      | brk => exact False.elim h
      | cont => exact False.elim h
      | ret u =>
        obtain ⟨v, H', os, bare, un, hok', r', q⟩ := h;have q' : v = .bl true := q;subst q';obtain rfl : u = Value.bool true := r';refine ⟨rfl, OldK.of_keep λb o e => ?_, os, bare⟩;cases q : H b with
        | none => exact un.keep b o e q (by intro z; exact absurd (show b ∈ ([] : List Addr) from z) (by simp)) (by simp)
        | some u =>
          rcases hO b with z | ⟨ob, xs, z⟩
          · rw [q] at z; cases z
          · have z2 := un.frzs b ob _ z;obtain ⟨e1, _⟩ := hok b _ z;obtain ⟨e2, _⟩ := hok' b _ z2;rw [e] at e1; cases e1;exact e2
  cases hk : K.lookup a with
  | some o =>
    have e := KX a o hk;rw [ha] at e;cases e;refine core (λ_ => none) (λ_ => .inl rfl) (.inr ⟨_, vs.toArray, _, hk, rfl, rfl, rfl, by rw [aL, lenV]; exact hl, by simpa using rv⟩) (λb u z => by have z' : (none : Option HO) = some u := z; cases z') (λb z => absurd rfl z) λz => absurd rfl z
  | none =>
    refine core (λb => if b = a then some (.frz { cls := .type "list", data := .seq vs.toArray } (.lst (ns.map V.int))) else none) (λb => ?_) (.inl (.inr ⟨{ cls := .type "list", data := .seq vs.toArray }, if_pos rfl⟩)) (λb u z => ?_) (λb z => ?_) λ_ => hk
    · by_cases hb : b = a
      · exact .inr ⟨_, _, if_pos hb⟩
      · exact .inl (if_neg hb)
    · by_cases hb : b = a
      · have z' := (if_pos hb).symm.trans z;cases z';subst hb;exact ⟨ha, by rw [ao]; exact hl, vs, _, rv, ha⟩
      · have z' := (if_neg hb).symm.trans z;cases z'
    · by_cases hb : b = a
      · exact hb
      · exact absurd (if_neg hb) z
theorem Nd {l:PySem.W.OpenLaw} {n k:Nat} {q:Program} {loose:List Str} {XP:(Str->Option Value)->Heap->Prop} {YP:World->Heap->Prop} {d:DefRec} {K:Params->FG9} {CX:World->MX} {sp:World->Sp} {x:Str}
  (hn:l.most=some n) (hn2:n<=sizeLine) (hdf:d.params.defaults=[]) (hr:nY k callerA)
  (hY:∀(w:World) (h:Heap),YP w h->(K w.params).In h)
  (F:∀(w:World) (mg:Str->Option Value) (fa:Addr) (h:Heap),(K w.params).In h->h.Ns mainGlobals mg->mg d.name=some (.ref fa) →
   ∃fd:FuncData,(∀(s:Shared) (u:Value),BindsTo s fd ⟨[u],[]⟩ [(x,u)]) /\
    ∀base:Heap,(K w.params).In base->base.Ns mainGlobals mg->cK l.prog w (K w.params) mg base (CX w) k fa fd [x] (sp w))
  (hsp:∀(w:World) (H:Hp) (a:Addr) (ns:List Int),ns.length<=n->QG H->bS (K w.params) H a (ns.map V.int)->sp w [.ref a] H (λv _=>v=.bl true) λ_ _ _=>False)
  (hCX:∀(w:World) (H:Hp) (s:Shared) (e:Value) (s':Shared),CX w [] H s (λ_ _ _=>False) e s'->False) :
  PySem.W.WalkO q loose XP YP l.row.toRowW d [] (λf vs=>PySem.call f vs):=by
 refine Att.Ho hn hdf λw s₀ s₁ mg mb fa o pm cd doc a vs ns G Y ho hd hcd hmg hobj hints hlen hg=>?_
 have KX:=hY w _ Y;obtain ⟨fd,hb,hF⟩:=F w mg fa _ KX G.T.g hmg;exact L0 KX G.T.g G.T.b G.T.builtins G.T.nolimit hg hobj hints (ai hlen hn2) hr hF hb (λH hO hS=>hsp w H a ns hlen hO hS) λH e s'=>hCX w H s₁ e s'
end L2


namespace L2
open PySem PySem.Spec PyProof.Rows
def inClass (s:Stmt) (j:Nat):Stmt:=match s with
 | .ClassDef _ _ _ body _ _ _ _ _ _ _=>body.getD j (.Pass ⟨0,0,0,0⟩)
 | _=>.Pass ⟨0,0,0,0⟩
def br (s:Stmt):Arguments:=match s with
 | .FunctionDef _ a _ _ _ _ _ _ _ _=>a
 | _=>{ posonlyargs:=[],args:=[],vararg:=none,kwonlyargs:=[],kw_defaults:=[],kwarg:=none,defaults:=[] }
def bf (s:Stmt):List Stmt:=match s with
 | .FunctionDef _ _ b _ _ _ _ _ _ _=>b
 | _=>[]
def ax (s:Stmt):Scope:=match s with
 | .FunctionDef _ _ _ _ _ _ sc _ _ _=>sc
 | _=>{ kind:=.function,names:=[],isGenerator:=false,isCoroutine:=false }
abbrev gi:MX:=λ_ _ _ _ _ _=>False
abbrev E0:XK:=λ_ _ _=>False
theorem DD {X:Cx}:z9 gi X E0:=λ_ _ _ _ _ _ _ h=>h.elim
theorem cP {X:Cx} {k k':Nat} {f:Addr} {fd:FuncData} {ps:List Str} {sp:Sp} {x:Str} {p pos:Pos} {e:Expr} {es:List Expr} {t:TA} (F:cK X.prog X.w X.K X.mg X.base gi k f fd ps sp) (hr:nY k' X.A) (hm:X.mg x=some (.ref f)) (hk:PySem.W.keepIn X.K (.ref f)=true) (hb:Binds X.K fd ps []) (ha:PA X (e::es) t) (hle:k<=k':=by decide) (hg:Gl X x:=by exact rfl) (hdb:(x==("__debug__":Str))=false:=by decide) (he:starEach (e::es) X.env=(false,eval e X.env)::starEach es X.env:=by rfl) (hpl:(backTo pos (starEach es X.env)).any (·.1)=false:=by rfl):PE X (.Call (.Name x p) (e::es) [] pos) (K8 sp [] E0 t):=AZ F (hr.mono hle) hg hm hk hb .nil DD ha hdb he hpl
structure gM (K:FG9) (x qual:Str) (st:Stmt) (f:Addr) (fd:FuncData):Prop where
 ex:∃(oc:Value) (od:Option Addr) (kV doc pm:Value) (an:Option Addr) (cdv ct:Value) (osl:Array (Option Value)),
  fd=PySem.W.fnOf x qual (br st) (bf st) (ax st) .none kV doc pm an cdv ct/\K.lookup f=some ⟨oc,od,.func fd,osl⟩/\PySem.W.codeIn K cdv qual=true
 kp:PySem.W.keepIn K (.ref f)=true
section
variable {P:Program} {w:World} {K:FG9} {mg:Str->Option Value} {base:Heap}
theorem gM.ok {x qual:Str} {st:Stmt} {f:Addr} {fd:FuncData} {N ps:List Str} {k:Nat} {sp:Sp} (F:gM K x qual st f fd) (S:bu N ps (ax st)) (len:∀vs H Q E,sp vs H Q E->vs.length=ps.length)
  (hbody:∀(cdv:Value) (A:Around) (outer:List Env) (s:Shared) (H:Hp) (vs:List V) (Q:VK) (E:XK),nY k (A.deeper (envOfC qual (ax st) s.heap.objs.size f cdv))->sp vs H Q E →
   ∃t,IF (KC gi P w K mg base N qual (ax st) f cdv A outer s H E).nox (bf st) t/\t { nx:=λ_ H'=>Q .non H',rt:=Q } (start N vs) H):cK P w K mg base gi (k+1) f fd ps sp:=by
 obtain ⟨oc,od,kV,doc,pm,an,cdv,ct,osl,rfl,lk,hcd⟩:=F.ex;refine Sa lk hcd S len λA outer s H vs Q E hr hsp=>?_
 obtain ⟨t,h,q⟩:=hbody cdv A outer s H vs Q E hr hsp;exact ⟨t,h.nox,q⟩
theorem gM.binds {x qual:Str} {st:Stmt} {f:Addr} {fd:FuncData} {ps:List Str} (F:gM K x qual st f fd)
  (h:∀(kV doc pm:Value) (an:Option Addr) (cdv ct:Value) (us:List Value),us.length=ps.length->bindArgs (PySem.W.fnOf x qual (br st) (bf st) (ax st) .none kV doc pm an cdv ct) ⟨us,[]⟩=pure (ps.zip us)):Binds K fd ps []:=by
 obtain ⟨oc,od,kV,doc,pm,an,cdv,ct,osl,rfl,lk,hcd⟩:=F.ex;exact .all (h kV doc pm an cdv ct)
theorem bO {x qual:Str} {st:Stmt} {f:Addr} {oc:Value} {od an:Option Addr} {osl:Array (Option Value)} {kV doc pm cdv ct:Value} (l:K.lookup f=some ⟨oc,od,.func (PySem.W.fnOf x qual (br st) (bf st) (ax st) .none kV doc pm an cdv ct),osl⟩)
  (c:PySem.W.codeIn K cdv qual=true) (k:PySem.W.keepIn K (.ref f)=true):gM K x qual st f (PySem.W.fnOf x qual (br st) (bf st) (ax st) .none kV doc pm an cdv ct):=⟨⟨oc,od,kV,doc,pm,an,cdv,ct,osl,rfl,l,c⟩,k⟩
end
theorem bF {n:Nat} (h:n<=1000):n < sizeLine:=bJ h (by decide)
section
variable {X:Cx}
theorem pv (i:Nat) {x:Str} {pos:Pos} (hN:X.N[i]?=some x:=by rfl) (hv:S6 X.env.scope x:=by first | exact Or.inl rfl | exact Or.inr (Or.inl rfl) | exact Or.inr (Or.inr rfl)) (hd:(x == ("__debug__":Str))=false:=by decide)
  (hcd:(x == ("__classdict__":Str))=false:=by decide):PE X (.Name x pos) (Pg i):=Qb hN hv hd hcd
end
theorem Ku {A B:Prop} (h:B):if false=true then A else B:=by
 rw[if_neg bg];exact h
theorem RV {A B:Prop} (h:A):if true=true then A else B:=by
 rw[if_pos rfl];exact h
theorem iB {c A B:Prop} [Decidable c] (h1:c->A) (h2:¬c->B):if c then A else B:=by
 by_cases h:c
 ·rw[if_pos h];exact h1 h
 ·rw[if_neg h];exact h2 h
def aE (H H':Hp):Prop:=∀b o,H b=some o->H' b=some o
theorem aE.refl (H:Hp):aE H H:=λ_ _ h=>h
theorem aE.trans {H H1 H2:Hp} (a:aE H H1) (b:aE H1 H2):aE H H2:=λc o h=>b c o (a c o h)
theorem aE.free {H H':Hp} (e:aE H H') {l:Addr} (h:H' l=Option.none):H l=Option.none:=by
 cases q:H l with
 | none=>rfl
 | some o =>
  rw[e l o q] at h;cases h
theorem aE.seq {K:FG9} {H H':Hp} {a:Addr} {xs:List V} (e:aE H H') (h:bS K H a xs):bS K H' a xs:=by
 rcases h with (h | ⟨o,h⟩) | h
 ·exact .inl (.inl (e _ _ h))
 ·exact .inl (.inr ⟨o,e _ _ h⟩)
 ·exact .inr h
end L2
namespace Nm
theorem Mj (a b:Int):Int.gcd b (a.fmod b)=Int.gcd a b:=by
 rw[Int.fmod_def,nC a b];apply Nat.dvd_antisymm
 ·apply MU
  ·exact fk ..
  ·have h1:=fk (a:=b) (b:=a - b*a.fdiv b);have h2:=fH (a:=b) (b:=a - b*a.fdiv b);have h3:=Int.dvd_add h2 (pT (c:=a.fdiv b) h1);rwa [Int.sub_add_cancel] at h3
 ·apply MU
  ·exact fk ..
  ·exact Int.dvd_sub (fH ..) (pT (fk ..))
theorem Ml (a b:Int):Int.gcd b (a % b)=Int.gcd a b:=by
 rw[Int.emod_def,nC a b];apply Nat.dvd_antisymm
 ·apply MU
  ·exact fk ..
  ·have h1:=fk (a:=b) (b:=a - b*(a / b));have h2:=fH (a:=b) (b:=a - b*(a / b));have h3:=Int.dvd_add h2 (pT (c:=a / b) h1);rwa [Int.sub_add_cancel] at h3
 ·apply MU
  ·exact fk ..
  ·exact Int.dvd_sub (fH ..) (pT (fk ..))
theorem Ol (a b:Int) (h:b≠0):(a.fmod b).natAbs < b.natAbs:=by
 rcases Int.lt_or_gt_of_ne h with h | h
 ·have e:a.fmod b=-((-a).fmod (-b)):=by
   have:=Int.neg_fmod_neg (-a) (-b);simp only[Int.neg_neg] at this;exact this
  have h1:=Int.fmod_nonneg_of_pos (-a) (b:=-b) (by lia);have h2:=Int.fmod_lt_of_pos (-a) (b:=-b) (by lia)
  lia
 ·have h1:=Int.fmod_nonneg_of_pos a h;have h2:=Int.fmod_lt_of_pos a h
  lia
def g (t b:Int):Int:=(Int.gcd t b:Int)
def lo (t b:Int):Int:=t / g t b
def hi (t b:Int):Int:=b / g t b
theorem Co {t b:Int} (h:b≠0):0 < g t b:=by
 unfold g;have:0 < Int.gcd t b:=M8 _ h
 lia
theorem Ci (t b:Int):lo t b*g t b=t:=Int.ediv_mul_cancel (fk ..)
theorem zU (t b:Int):hi t b*g t b=b:=Int.ediv_mul_cancel (fH ..)
theorem EV {t b:Int} (h:0 < b):0 < hi t b:=by
 have h1:=Co (t:=t) (b:=b) (by lia);have h2:=zU t b;by_cases h3:0 < hi t b
 ·exact h3
 ·have:hi t b*g t b<=0:=Int.mul_nonpos_of_nonpos_of_nonneg (by lia) (by lia)
  lia
theorem Cf {t b:Int} (h:b≠0):Int.gcd (lo t b) (hi t b)=1:=by
 have h1:=Co (t:=t) h;have e:=Int.gcd_mul_right (lo t b) (g t b) (hi t b);rw[Ci,zU] at e;have e2:(g t b).natAbs=Int.gcd t b:=by unfold g;simp
 rw[e2] at e;have h2:0 < Int.gcd t b:=M8 _ h;exact Nat.eq_of_mul_eq_mul_right h2 (by rw[<- e,uK])
theorem Cg (t b : Int) : lo t b * b = t * hi t b := by
  have h1 := Ci t b;have h2 := zU t b
  calc lo t b * b = lo t b * (hi t b * g t b) := by rw [h2]
    _ = (lo t b * g t b) * hi t b := by rw [fQ (hi t b), <- dQ]
    _ = t * hi t b := by rw [h1]
theorem tE {a b c:Int} (h:Int.gcd a b=1) (hd:a∣b*c):a∣c:=by
 have h1:a.natAbs∣b.natAbs*c.natAbs:=by rw[<- dg];exact gO.mpr hd
 have h2:Nat.Coprime a.natAbs b.natAbs:=h;exact gO.mp (h2.dvd_of_dvd_mul_left h1)
theorem uniq {a b c d:Int} (hb:0 < b) (hd:0 < d) (h1:Int.gcd a b=1) (h2:Int.gcd c d=1) (e:a*d=c*b):a=c/\b=d:=by
 have e1:b∣d:=by
  have:b∣a*d:=⟨c,by rw[e,fQ]⟩;exact tE (by rw[nC];exact h1) this
 have e2:d∣b:=by
  have:d∣c*b:=⟨a,by rw[<- e,fQ]⟩;exact tE (by rw[nC];exact h2) this
 have e3:b=d:=Int.dvd_antisymm (by lia) (by lia) e1 e2;subst e3;exact ⟨xO (by lia) e,rfl⟩
theorem Qk {t b c d : Int} (hb : 0 < b) (hd : 0 < d) (h2 : Int.gcd c d = 1) (e : t * d = c * b) : lo t b = c /\ hi t b = d := by
  refine uniq (EV hb) hd (Cf (by lia)) h2 ?_;have h := Cg t b;have hb' : b ≠ 0 := by lia
  apply xO hb'
  calc lo t b * d * b = lo t b * b * d := by rw [dQ, fQ d b, <- dQ]
    _ = t * hi t b * d := by rw [h]
    _ = t * d * hi t b := by rw [dQ, fQ (hi t b), <- dQ]
    _ = c * b * hi t b := by rw [e]
    _ = c * hi t b * b := by rw [dQ, fQ b, <- dQ]
theorem Ql {a b:Int} (hb:0 < b) (h:Int.gcd a b=1):lo a b=a/\hi a b=b:=Qk hb hb h rfl
theorem rG {a b:Int} (h:b≠0):a.natAbs<=(a*b).natAbs:=by
 rw[dg];exact dA _ (Int.natAbs_pos.mpr h)
theorem lo_le {t b:Int} (h:b≠0):(lo t b).natAbs<=t.natAbs:=by
 have:=rG (a:=lo t b) (b:=g t b) (by have:=Co (t:=t) h;lia);rwa [Ci] at this
theorem O0 {t b:Int} (h:b≠0):(hi t b).natAbs<=b.natAbs:=by
 have:=rG (a:=hi t b) (b:=g t b) (by have:=Co (t:=t) h;lia);rwa [zU] at this
def Sz (k:Nat) (x:Int):Prop:=x.natAbs < 2^k
theorem Sz.mono {j k:Nat} {x:Int} (h:Sz j x) (l:j<=k):Sz k x:=bI h (au (by decide) l)
theorem Sz.mul {j k:Nat} {x y:Int} (h1:Sz j x) (h2:Sz k y):Sz (j+k) (x*y):=by
 unfold Sz at *
 rw[dg,bo];exact Nat.mul_lt_mul'' h1 h2
theorem Sz.neg {k:Nat} {x:Int} (h:Sz k x):Sz k (-x):=by unfold Sz at *;rw[xN];exact h
theorem Sz.le {k:Nat} {x y:Int} (h:Sz k y) (l:x.natAbs<=y.natAbs):Sz k x:=bJ l h
theorem Sz.hi {k:Nat} {t b:Int} (h:Sz k b) (hb:b≠0):Sz k (hi t b):=h.le (O0 hb)
end Nm
namespace L2
open PySem PySem.Spec PyProof.Rows
structure Bk (env:Env) (scope:Scope) (own capN:List Str):Prop where
 kind:scope.kind=.function
 locs:∀y∈scope.names,y.2=.local->scope.names.lookup y.1=some .local
 ownk:∀x∈own,scope.names.lookup x=some .local\/scope.names.lookup x=some .cell
 cells:∀y∈scope.names,y.2=.cell->y.1∈own/\y.1∉capN
 frees:∀y∈scope.names,y.2=.free->y.1∈capN/\y.1∉own
 capf:∀x∈capN,scope.names.lookup x=some .free
 caps:∀x∈capN,env.kindOf x=some .cell\/env.kindOf x=some .free
def Sx (scope:Scope) (own capN:List Str):Bool :=
 decide (scope.kind=.function) && scope.names.all (λy=>decide (y.2=.local->scope.names.lookup y.1=some .local) && decide (y.2=.cell->y.1∈own/\y.1∉capN) && decide (y.2=.free->y.1∈capN/\y.1∉own)) &&
 own.all (λx=>decide (scope.names.lookup x=some .local\/scope.names.lookup x=some .cell)) && capN.all λx=>decide (scope.names.lookup x=some .free)
def DU (env:Env):List Str->Bool
 | []=>true
 | x :: r=>(match env.kindOf x with | some .cell=>true | some .free=>true | _=>false) && DU env r
theorem GW {env:Env}:∀{capN:List Str},DU env capN=true->∀x∈capN,env.kindOf x=some .cell\/env.kindOf x=some .free
 | [],_,_,h=>nomatch h
 | y :: r,h,x,hx=>by
  unfold DU at h;rw[eh] at h;rcases aD.mp hx with e | hx
  ·subst e;have h1:=h.1
   split at h1
   ·rename_i e;exact .inl e
   ·rename_i e;exact .inr e
   ·cases h1
  ·exact GW h.2 x hx
theorem Bk.of {env:Env} {scope:Scope} {own capN:List Str} (h1:Sx scope own capN=true) (h2:DU env capN=true):Bk env scope own capN:=by
 unfold Sx at h1;rw[eh,eh,eh,sL,sL,sL] at h1;obtain ⟨⟨⟨a1,a2⟩,a3⟩,a4⟩:=h1
 have a2':∀y∈scope.names,(y.2=.local->scope.names.lookup y.1=some .local)/\(y.2=.cell->y.1∈own/\y.1∉capN)/\(y.2=.free->y.1∈capN/\y.1∉own):=λy hy=>by
  have q:=a2 y hy;rw[eh,eh] at q;exact ⟨of_decide_eq_true q.1.1,of_decide_eq_true q.1.2,of_decide_eq_true q.2⟩
 exact ⟨of_decide_eq_true a1,λy hy=>(a2' y hy).1,λx hx=>of_decide_eq_true (a3 x hx),λy hy=>(a2' y hy).2.1,λy hy=>(a2' y hy).2.2,λx hx=>of_decide_eq_true (a4 x hx),GW h2⟩
def eG (env:Env):List (Str×NameKind)->List (Str×Addr)->List (Str×Addr)
 | [],acc=>acc
 | (n,k) :: r,acc=>if k == .free then eG env r ((n,(env.cells.lookup n).getD 0) :: acc) else eG env r acc
theorem jh (env:Env):∀(names:List (Str×NameKind)) (acc:List (Str×Addr)),eG env names acc=eG env names []++acc
 | [],_=>rfl
 | (n,k) :: r,acc=>by
  unfold eG
  split
  ·rw[jh env r (_ :: acc),jh env r [_],cF];rfl
  ·exact jh env r acc
theorem tP (env:Env):∀(names:List (Str×NameKind)) {x:Str} {c:Addr},(x,c)∈eG env names []->(x,NameKind.free)∈names/\c=(env.cells.lookup x).getD 0
 | [],_,_,h=>nomatch h
 | (n,k) :: r,x,c,h=>by
  unfold eG at h
  split at h
  ·rename_i hk
   have ek:k=.free:=by simpa using hk
   subst ek;rw[jh] at h;rcases ay.mp h with h | h
   ·have q:=tP env r h;exact ⟨b8 _ q.1,q.2⟩
   ·have e:(x,c)=(n,(env.cells.lookup n).getD 0):=by simpa using h
    cases e;exact ⟨dC,rfl⟩
  ·have q:=tP env r h;exact ⟨b8 _ q.1,q.2⟩
theorem jM {α:Type}:∀{l:List (Str×α)} {x:Str} {c:α},(x,c)∈l->∃d,l.lookup x=some d
 | (k,v) :: r,x,c,h=>by
  rw[nB];cases hb:x == k with
  | true=>exact ⟨v,rfl⟩
  | false =>
   rcases aD.mp h with e | h
   ·cases e;simp at hb
   ·exact jM h
theorem tQ (env:Env):∀(names:List (Str×NameKind)) {x:Str},(x,NameKind.free)∈names->∃c,(x,c)∈eG env names []
 | (n,k) :: r,x,h=>by
  unfold eG;rcases aD.mp h with e | h
  ·cases e;rw[if_pos (by decide),jh];exact ⟨_,bG _ dC⟩
  ·obtain ⟨c,q⟩:=tQ env r h
   split
   ·rw[jh];exact ⟨c,d9 _ q⟩
   ·exact ⟨c,q⟩
theorem Cs {scope : Scope} {env : Env} (h : ∀ y ∈ scope.names, y.2 = .free → ∃ c, env.cells.lookup y.1 = some c) : closureFor scope env = pure (eG env scope.names []) := by
  have gen : ∀ (names : List (Str × NameKind)) (acc : List (Str × Addr)) (f : Str × NameKind → List (Str × Addr) → Sem (ForInStep (List (Str × Addr)))),
      (∀ name kind cells, f (name, kind) cells = if kind == .free then (do let a <- cellOf env name; pure (.yield ((name, a) :: cells))) else pure (.yield cells)) →
      (∀ y ∈ names, y.2 = .free → ∃ c, env.cells.lookup y.1 = some c) → forIn names acc f = pure (eG env names acc) := by
    intro names
    induction names with
    | nil => intro acc f hf _; rw [D9]; rfl
    | cons y r ih =>
      intro acc f hf hh;obtain ⟨n, k⟩ := y;rw [M7, hf];unfold eG;by_cases hk : (k == NameKind.free) = true
      · obtain ⟨c, hc⟩ := hh (n, k) dC (by simpa using hk);have hc' : env.cells.lookup n = some c := hc;have e : cellOf env n = pure c := by unfold cellOf; rw [hc']
        rw [if_pos hk, if_pos hk, e, hc'];simp only [pure_bind, Option.getD_some];exact ih _ f hf λy hy => hh y (b8 _ hy)
      · rw [if_neg hk, if_neg hk];simp only [pure_bind];exact ih _ f hf λy hy => hh y (b8 _ hy)
  simp only [closureFor];rw [gen scope.names [] _ (λname kind cells => by cases hkc : kind == NameKind.free <;> simp [hkc]) h];rfl

theorem fK:∀(names:List (Str×NameKind)) (n:Nat) (acc:List (Str×Addr)),cellsFrom n names acc=cellsFrom n names []++acc
 | [],_,_=>rfl
 | (x,k) :: r,n,acc=>by
  unfold cellsFrom
  split
  ·rw[fK r (n+1) (_ :: acc),fK r (n+1) [_],cF];rfl
  ·exact fK r n acc
theorem mN:∀(names:List (Str×NameKind)) (n:Nat) {x:Str} {c:Addr},(x,c)∈cellsFrom n names []->(x,NameKind.cell)∈names
 | [],_,_,_,h=>nomatch h
 | (y,k) :: r,n,x,c,h=>by
  unfold cellsFrom at h
  split at h
  ·rename_i hk
   have ek:k=.cell:=by simpa using hk
   subst ek;rw[fK] at h;rcases ay.mp h with h | h
   ·exact b8 _ (mN r _ h)
   ·have e:(x,c)=(y,n):=by simpa using h
    cases e;exact dC
  ·exact b8 _ (mN r _ h)
def zZ (env:Env) (scope:Scope) (C:Addr):Env :=
 { scope:=relabel scope env,locals:=C,globals:=env.globals,cells:=cellsFrom (C+1) scope.names (eG env scope.names []),qual:=env.qual,func:=none,code:=env.code,frame:=env.frame,builtins:=env.builtins }
theorem Gy {M:Model} {A:Around} {E:Value->Shared->Prop} {s:Shared} {scope:Scope} {g:Addr} {cl:List (Str×Addr)} {qual:Str} {env:Env} {Q:Env->Shared->Prop}
  (h:Q (newEnv scope s.heap.objs.size g (cellsFrom (s.heap.objs.size+1) scope.names cl) qual none .none (some env) builtinsNs) { s with heap:=pushCells (s.heap.push { cls:=.type "dict",data:=.dict #[] }) scope.names }) :
  wpAny M A (newFunctionEnv scope g cl [] qual none .none (some env)) Q E s:=by
 simp only[newFunctionEnv,Option.isSome_some,if_true];refine wpAny_bind (wpAny_alloc ?_);refine wpAny_bind (wpAny_layCells _ (λname kind cells=>by cases hkc:kind == NameKind.cell <;> simp [hkc]) _ _ _ _ ?_);rw[show ({ s with heap:=s.heap.push { cls:=.type "dict",data:=.dict #[] } }:Shared).heap.objs.size=s.heap.objs.size+1 from Heap.size_push ..];rw[D9];exact wpAny_bind (wpAny_pure (wpAny_pure h))
theorem yo {scope:Scope} {env:Env} {x:Str}:∀{k:NameKind},(relabel scope env).names.lookup x=some k->∃k0,scope.names.lookup x=some k0/\(k=k0\/(k0=.free/\k=.cell)):=by
 unfold relabel;show ∀{k:NameKind},(scope.names.map λ(n,k)=>if (k == NameKind.free && env.scope.kind == .function && env.kindOf n == some .cell) then (n,NameKind.cell) else (n,k)).lookup x=some k->_
 induction scope.names with
 | nil=>intro k h;cases h
 | cons y r ih =>
  intro k h;obtain ⟨n,k1⟩:=y;rw[iD,nB] at h;rw[nB];by_cases hc:(k1 == NameKind.free && env.scope.kind == .function && env.kindOf n == some .cell)=true
  ·simp only[hc,if_true] at h;cases hb:x == n with
   | true =>
    simp only[hb] at h
    have e1:k1=.free:=by
     rw[eh,eh] at hc;simpa using hc.1.1
    cases h;exact ⟨k1,rfl,.inr ⟨e1,rfl⟩⟩
   | false=>simp only[hb] at h;exact ih h
  ·have hc':(k1 == NameKind.free && env.scope.kind == .function && env.kindOf n == some .cell)=false:=by simpa using hc
   simp only[hc',jI,if_false] at h;cases hb:x == n with
   | true=>simp only[hb] at h;cases h;exact ⟨_,rfl,.inl rfl⟩
   | false=>simp only[hb] at h;exact ih h
theorem Gh {scope:Scope} {env:Env} {x:Str}:scope.names.lookup x=some .free->(relabel scope env).names.lookup x=some .cell\/(relabel scope env).names.lookup x=some .free:=by
 unfold relabel;show _->(scope.names.map λ(n,k)=>if (k == NameKind.free && env.scope.kind == .function && env.kindOf n == some .cell) then (n,NameKind.cell) else (n,k)).lookup x=some .cell\/(scope.names.map λ(n,k)=>if (k == NameKind.free && env.scope.kind == .function && env.kindOf n == some .cell) then (n,NameKind.cell) else (n,k)).lookup x=some .free
 induction scope.names with
 | nil=>intro h;cases h
 | cons y r ih =>
  intro h;obtain ⟨n,k1⟩:=y;rw[nB] at h;rw[iD];by_cases hc:(k1 == NameKind.free && env.scope.kind == .function && env.kindOf n == some .cell)=true
  ·simp only[hc,if_true,nB];cases hb:x == n with
   | true=>exact .inl rfl
   | false=>rw[hb] at h;exact ih h
  ·have hc':(k1 == NameKind.free && env.scope.kind == .function && env.kindOf n == some .cell)=false:=by simpa using hc
   simp only[hc',jI,if_false,nB];cases hb:x == n with
   | true=>rw[hb] at h;cases h;exact .inr rfl
   | false=>rw[hb] at h;exact ih h
structure Bz where
 s:Shared
 H:Hp
 fp:List Addr
 C:Addr
def AS (X:Cx) (own capN:List Str) (scope:Scope) (Z:Bz):Cx where
 prog:=X.prog
 w:=X.w
 K:=X.K
 mg:=X.mg
 base:=X.base
 A:=X.A
 N:=own++capN
 s₀:=Z.s
 H₀:=Z.H
 env:=zZ X.env scope Z.C
 outer:=X.stack
 stack:=X.stack
 ex:=Z.fp
 fn:=λx=>own.contains x
 calm:=true
 pn:=[]
 xe:=λ_ _=>False
section
variable {X:Cx} {pins:List (Addr×Obj)} {σ:St} {own capN:List Str} {scope:Scope} {Z:Bz}
theorem kg (B:Bk X.env scope own capN) (I:Inv X pins σ Z.H Z.s) {x:Str} {c:Addr} (h:(zZ X.env scope Z.C).cells.lookup x=some c) :
  (x∈own/\(x,c)∈cellsFrom (Z.C+1) scope.names [])\/(x∈capN/\x∉own/\X.env.cells.lookup x=some c):=by
 have h':(cellsFrom (Z.C+1) scope.names (eG X.env scope.names [])).lookup x=some c:=h;rw[fK] at h';rcases ay.mp (mem_of_lookup h') with m | m
 ·exact .inl ⟨(B.cells _ (mN _ _ m) rfl).1,m⟩
 ·obtain ⟨m1,e⟩:=tP _ _ m;obtain ⟨q1,q2⟩:=B.frees _ m1 rfl;obtain ⟨d,hd⟩:=I.ok.has x (B.caps x q1);rw[hd] at e;exact .inr ⟨q1,q2,by rw[hd,e];rfl⟩
theorem Oy (B:Bk X.env scope own capN) (I:Inv X pins σ Z.H Z.s) {x:Str} {c:Addr} (hx:x∈capN) (h:X.env.cells.lookup x=some c):(zZ X.env scope Z.C).cells.lookup x=some c:=by
 have hm:(x,NameKind.free)∈scope.names:=mem_of_lookup (B.capf x hx);obtain ⟨c1,m1⟩:=tQ X.env scope.names hm
 have hs:∃d,(zZ X.env scope Z.C).cells.lookup x=some d:=by
  show ∃d,(cellsFrom (Z.C+1) scope.names (eG X.env scope.names [])).lookup x=some d
  rw[fK];exact jM (bG _ m1)
 obtain ⟨d,hd⟩:=hs;rcases kg B I hd with ⟨q,m⟩ | ⟨_,_,q⟩
 ·exact absurd hx (B.cells _ (mN _ _ m) rfl).2
 ·rw[h] at q;cases q;exact hd
theorem Ke (h:Heap) (C:Addr) (hC:h.objs.size=C+1) (names:List (Str×NameKind)):CellsOk (pushCells h names) (C+1) (cellsFrom (C+1) names []):=by
 have q:=cellsFrom_ok names h (C+1) [] ⟨λ_ _ hm=>(nomatch hm),List.Pairwise.nil⟩ (by rw[hC];exact ak _);rwa [hC] at q
theorem Fb (I:Inv X pins σ Z.H Z.s) {x:Str} {c:Addr} (h:X.env.cells.lookup x=some c):@LT.lt Nat instLTNat c Z.s.heap.objs.size:=by
 obtain ⟨v,q⟩:=I.cell x c h;exact q.lt
theorem QC {h1:Heap} (I:Inv X pins σ Z.H Z.s) (hc:X.calm=true) (B:Bk X.env scope own capN) (hC:Z.s.heap.objs.size<=Z.C) (hcl:CellsOk h1 (Z.C+1) (cellsFrom (Z.C+1) scope.names []))
  (hf:∀b∈Z.fp,lZ X pins Z.H b/\@LT.lt Nat instLTNat b Z.s.heap.objs.size):(AS X own capN scope Z).Ok:=by
 refine ⟨I.ok.mod,B.kind,I.ok.glob,I.ok.blt,hC,λx y c h1 h2=>?_,λx hx=>?_,λx c hx h=>?_,λ_=>I.ok.hd hc,I.ok.frames,.inl rfl,λb hb=>⟨?_,λx c h=>?_⟩,I.bs,ai I.ok.bsz I.sz,λb o e hb=>?_,λb hb hz=>?_,I.stack,I.stkFree⟩
 ·rcases kg B I h1 with ⟨q1,m1⟩ | ⟨q1,n1,m1⟩ <;> rcases kg B I h2 with ⟨q2,m2⟩ | ⟨q2,n2,m2⟩
  ·exact name_of_addr hcl.apart m1 m2
  ·have l1:=(hcl.empty _ _ m1).2;have l2:=Fb I m2
   lia
  ·have l1:=(hcl.empty _ _ m2).2;have l2:=Fb I m1
   lia
  ·exact I.ok.inj x y c m1 m2
 ·have hx':(relabel scope X.env).names.lookup x=some .cell\/(relabel scope X.env).names.lookup x=some .free:=hx
  have hk:scope.names.lookup x=some .cell\/scope.names.lookup x=some .free:=by
   rcases hx' with h | h
   ·obtain ⟨k0,e,q | ⟨q,_⟩⟩:=yo h
    ·exact .inl (by rw[e,<- q])
    ·exact .inr (by rw[e,q])
   ·obtain ⟨k0,e,q | ⟨_,q⟩⟩:=yo h
    ·exact .inr (by rw[e,<- q])
    ·cases q
  show ∃c,(cellsFrom (Z.C+1) scope.names (eG X.env scope.names [])).lookup x=some c
  rcases hk with h | h
  ·exact QZ.mp (Bf scope.names (Z.C+1) _ (.inl h))
  ·obtain ⟨c,m⟩:=tQ X.env scope.names (mem_of_lookup h);rw[fK];exact jM (bG _ m)
 ·have ho:x∈own:=by have hx':own.contains x=true:=hx;simpa using hx'
  rcases kg B I h with ⟨_,m⟩ | ⟨_,n,_⟩
  ·have:=(hcl.empty _ _ m).2;have hC':Z.s.heap.objs.size<=Z.C:=hC;show Z.s.heap.objs.size<=c
   lia
  ·exact absurd ho n
 ·intro e;have e':@Eq Nat b Z.C:=e;have:=(hf b hb).2
  lia
 ·have l:=(hf b hb).2;rcases kg B I h with ⟨_,m⟩ | ⟨_,_,m⟩
  ·intro e;have e':@Eq Nat c b:=e;have:=(hcl.empty _ _ m).2
   lia
  ·exact (hf b hb).1.2.2.2.2.1 x c m
 ·obtain ⟨_,_,_,f3,_⟩:=(hf b hb).1;rcases f3 with f3 | f3
  ·exact I.ok.noex b o e f3
  ·exact absurd (bI (Heap.lt_size e) (ai I.ok.bsz f3)) (eH _)
 ·obtain ⟨_,f1,f2,_⟩:=(hf b hb).1;rcases aD.mp (I.stkSub b hz) with e | e
  ·exact f1 e
  ·exact f2 e
def KN (k:Nat) (cap:List Nat) (σ:St):St:=List.replicate k none++cap.map λj=>(σ[j]?).join
def AE (X:Cx) (capN:List Str) (cap:List Nat):Prop:=cap.map (λj=>X.N[j]?)=capN.map some
theorem AE.get {cap:List Nat} (h:AE X capN cap) {i:Nat} {x:Str} (e:capN[i]?=some x):∃j,cap[i]?=some j/\X.N[j]?=some x:=by
 have q:=congrArg (λl=>l[i]?) h;simp only[aM,e,Option.map_some] at q;cases hc:cap[i]? with
 | none=>rw[hc] at q;cases q
 | some j=>rw[hc] at q;exact ⟨j,rfl,by simpa using q⟩
theorem GX {cap:List Nat} {h':Heap} {m:Str->Option Value} (I:Inv X pins σ Z.H Z.s) (B:Bk X.env scope own capN) (hcap:AE X capN cap)
  (kc:∀x c,X.env.cells.lookup x=some c->∀v,Z.s.heap.IsCell c v->h'.IsCell c v) {i:Nat} {x:Str} {v:V} (e1:(own++capN)[i]?=some x) (e2:(KN own.length cap σ)[i]?=some (some v)) :
  ∃u,RelV v u/\Look (zZ X.env scope Z.C) h' m x u:=by
 have hi:own.length<=i:=by
  by_cases hi:own.length<=i
  ·exact hi
  ·exfalso
   unfold KN at e2;rw[bA (by simpa using hi),fG] at e2
   split at e2 <;> cases e2
 rw[ba hi] at e1;unfold KN at e2;rw[ba (by simpa using hi),aI,aM] at e2;obtain ⟨j,hj,hN⟩:=hcap.get e1;rw[hj] at e2;have e3:(σ[j]?).join=some v:=by simpa using e2
 have e4:σ[j]?=some (some v):=by
  cases q:σ[j]? with
  | none=>rw[q] at e3;cases e3
  | some o=>rw[q] at e3;simp at e3;rw[e3]
 have hx:x∈capN:=aw e1;have hk:=B.caps x hx;obtain ⟨m0,_,hl⟩:=I.loc;obtain ⟨u,r,l⟩:=hl j x v hN e4 (.inr hk);refine ⟨u,r,.inr ⟨Gh (B.capf x hx),?_⟩⟩;rcases l with ⟨hk2,_⟩ | ⟨_,c,hc,z⟩
 ·rcases hk with hk | hk
  ·rw[hk] at hk2;cases hk2
  ·rw[hk] at hk2;cases hk2
 ·exact ⟨c,Oy B I hx hc,kc x c hc _ z⟩
theorem R9 (I:Inv X pins σ Z.H Z.s) {b:Addr} (h:b∈KP X.stack):@LT.lt Nat instLTNat b Z.s.heap.objs.size:=by
 obtain ⟨_,o,ho,_⟩:=I.stack.mem h;exact Heap.lt_size ho
theorem Ow {cap:List Nat} {h1:Heap} {D:Addr} {oD:Obj} {t1:Nat} (I:Inv X pins σ Z.H Z.s) (hc:X.calm=true) (B:Bk X.env scope own capN) (hcap:AE X capN cap) (hC:Z.s.heap.objs.size<=Z.C)
  (hcl:CellsOk h1 (Z.C+1) (cellsFrom (Z.C+1) scope.names [])) (hf:∀b∈Z.fp,lZ X pins Z.H b/\@LT.lt Nat instLTNat b Z.s.heap.objs.size)
  (hk:∀b o,Z.s.heap.get? b=some o->h1.get? b=some o) (hn:h1.Ns Z.C λ_=>none) (hD:Z.s.heap.objs.size<=D) (hDC:D≠Z.C) (hoD:h1.get? D=some oD) (hdD:∀v,oD.data≠.cell v) :
  Inv (AS X own capN scope Z) [(D,oD)] (KN own.length cap σ) Z.H { Z.s with heap:=h1,toks:=t1 }:=by
 refine ⟨QC I hc B hC hcl hf,rfl,I.bare,Un.kept hk,⟨_,hn,λi x v e1 e2 _=>GX I B hcap (λx c _ v z=>z.keeps hk) e1 e2⟩,λx c h=>?_,I.hok.fresh hC,λx c h=>?_,λp hp=>?_,I.hok.kept hk,?_⟩
 ·rcases kg B I h with ⟨_,m⟩ | ⟨_,_,m⟩
  ·exact ⟨none,(hcl.empty _ _ m).1⟩
  ·obtain ⟨v,q⟩:=I.cell x c m;exact ⟨v,q.keeps hk⟩
 ·rcases kg B I h with ⟨_,m⟩ | ⟨_,_,m⟩
  ·exact I.hok.fresh (by have:=(hcl.empty _ _ m).2;lia)
  ·exact I.freeC x c m
 ·have e:p=(D,oD):=by simpa [AS] using hp
  subst e;exact ⟨hoD,I.hok.fresh hD,hDC,λz=>eH _ (bI (R9 I z) hD),hdD⟩
 ·show (KN own.length cap σ).length=(own++capN).length
  have:=congrArg List.length hcap;simp only[ao] at this;unfold KN;simp [this]
theorem MJ {cap:List Nat} {pins':List (Addr×Obj)} {σ':St} {H':Hp} {s':Shared} (I:Inv X pins σ Z.H Z.s) (B:Bk X.env scope own capN) (hcap:AE X capN cap) (hf:∀b∈Z.fp,lZ X pins Z.H b/\@LT.lt Nat instLTNat b Z.s.heap.objs.size)
  (J:Inv (AS X own capN scope Z) pins' σ' H' s'):Inv (AS X own capN scope Z) pins' (KN own.length cap σ) H' s':=by
 refine ⟨J.ok,J.os,J.bare,J.base,?_,J.cell,J.free,J.freeC,J.pin,J.hok,?_⟩
 ·obtain ⟨m,hn,_⟩:=J.loc;refine ⟨m,hn,λi x v e1 e2 _=>GX I B hcap (λx c hx v z=>?_) e1 e2⟩;obtain ⟨o,ho,hd⟩:=z;obtain ⟨sl,e⟩:=J.base.any ho (I.freeC x c hx) λz=>(hf c z).1.2.2.2.2.1 x c hx rfl
  exact ⟨_,e,hd⟩
 ·show (KN own.length cap σ).length=(own++capN).length
  have:=congrArg List.length hcap;simp only[ao] at this;unfold KN;simp [this]
theorem Ox {σ':St} {H':Hp} {s':Shared} {D:Addr} {its:List Value} {n:Nat} {ys:List V} (I:Inv X pins σ Z.H Z.s) (hf:∀b∈Z.fp,lZ X pins Z.H b/\@LT.lt Nat instLTNat b Z.s.heap.objs.size) (hD:Z.s.heap.objs.size<=D)
  (J:Inv (AS X own capN scope Z) [(D,{ cls:=.type "list",data:=.seq its.toArray n })] σ' H' s') (r:cU ys its) (hz:ys.length<=sizeLine) :
  Inv X pins σ (upd H' D (.lst ys)) s':=by
 have pD:=J.pin (D,{ cls:=.type "list",data:=.seq its.toArray n }) (by simp);have ne:∀{b:Addr} {o:Obj},Z.s.heap.get? b=some o->b≠D:=λe z=>by subst z;exact eH _ (bI (Heap.lt_size e) hD)
 have nt:∀{b:Addr} {u:HO},H' b=some u->b≠D:=λe z=>by rw[z,pD.2.1] at e;cases e
 refine I.call' (ch:=Z.fp) J.os ⟨J.base.keep,J.base.slot,λb o e h hx=>?_,J.base.there,λb xs e=>?_,λb o u e=>?_,λb ps e=>?_⟩ (λb u e=>?_) J.bare λb hb=>?_
 ·rw[bH (ne e)];exact J.base.free b o e h hx
 ·have q:=J.base.tups b xs e;rw[bH (nt q)];exact q
 ·have q:=J.base.frzs b o u e;rw[bH (nt q)];exact q
 ·obtain ⟨more,q⟩:=J.base.tbls b ps e;exact ⟨more,by rw[bH (nt q)];exact q⟩
 ·by_cases hb:b=D
  ·subst hb;rw[aK] at e;cases e;exact ⟨hz,its,n,r,pD.1⟩
  ·rw[bH hb] at e;exact (J.hok b u e).stay (λc v _ q=>q) (λc q=>by rw[bH (nt q)];exact q) λc xs q=>by rw[bH (nt q)];exact q
 ·obtain ⟨_,f1,_,f3,f4,f5⟩:=(hf b hb).1;exact ⟨f3,f1,f4,f5⟩
end
theorem Pf {α:Type} {t:Sem α} {Q Q':α->Shared->Prop} {M:Model} {A:Around} {E:Value->Shared->Prop} {s:Shared} (h:wpAny M A t Q (λ_ _=>False) s) (hQ:∀a s,Q a s->Q' a s):wpAny M A t Q' E s :=
 wpAny_mono h hQ λ_ _ z=>False.elim z
theorem E7 {prog : Program} {w : World} {A : Around} {R : Result → Shared → Prop} {s : Shared} {elt target iter : Expr} {ifs : List Expr} {scope : Scope} {pos : Pos} {it acc : Value} {env : Env} (I : Nat → Shared → Prop)
    (turn : ∀ (E : Value → Shared → Prop) n s, I n s → wpAny (model prog w) A (pyNext it) (λr s₁ => match r with
      | none => R (.ok .next) s₁
      | some v => wpAny (model prog w) A (letOwnedTupleGo target it v) (λ_ s₂ => wpAny (model prog w) A (assign target env v) (λ_ s₃ =>
          wpAny (model prog w) A (forIn ifs true λc r => if r = true then do let ok <- isTrue c env (eval c env); pure (ForInStep.yield ok) else pure (ForInStep.yield r)) (λok s₄ =>
            if ok = true then wpAny (model prog w) A (eval elt env) (λx s₅ => wpAny (model prog w) A (call (.builtin "list.append") [acc, x]) (λ_ s₆ => ∃ m, m < n /\ I m s₆) E s₅) E s₄
            else ∃ m, m < n /\ I m s₄) E s₃) E s₂) E s₁) E s)
    (n : Nat) (h : I n s) : codeAny (model prog w) A (.compLoop (.ListComp elt [⟨target, iter, ifs, 0⟩] scope pos) 0 it acc env) R s := by
  refine codeAny_loop rfl I (λn s hI => ?_) n h;show wpAny _ A ((compTurn (.ListComp elt [⟨target, iter, ifs, 0⟩] scope pos) 0 it acc env).onRaise (λx => do noteFrame x env; theTreesLotGoes x)) _ _ s
  refine wpAny_noted ?_;rw [compTurn_list];refine wpAny_bind (wpAny_standAt (wpAny_bind (wpAny_mono (turn _ n s hI) (λr s₁ h₁ => ?_) λ_ _ h' => h')));cases r with
  | none => exact wpAny_pure h₁
  | some v =>
    refine wpAny_bind (wpAny_mono h₁ (λ_ s₂ h₂ => wpAny_bind (wpAny_mono h₂ (λ_ s₃ h₃ => wpAny_bind (wpAny_mono h₃ (λok s₄ h₄ => ?_) λ_ _ h' => h')) λ_ _ h' => h')) λ_ _ h' => h');cases ok with
    | false => exact wpAny_pure ⟨rfl, h₄⟩
    | true =>
      exact wpAny_bind (wpAny_bind (wpAny_mono h₄ (λx s₅ h₅ => wpAny_bind (wpAny_mono h₅ (λ_ s₆ h₆ => wpAny_pure (wpAny_pure ⟨rfl, h₆⟩)) λ_ _ h' => h')) λ_ _ h' => h'))

def PF (X : Cx) (ifs : List Expr) (t : TT) : Prop :=
  ∀ (pins : List (Addr × Obj)) (s : Shared) (σ : St) (H : Hp) (Q : Bool → Hp → Prop), Inv X pins σ H s → t σ H Q →
    wpAny (model X.prog X.w) X.A (forIn ifs true λc r => if r = true then do let ok <- isTrue c X.env (eval c X.env); pure (ForInStep.yield ok) else pure (ForInStep.yield r)) (TP X pins σ Q) X.xe s
def Q4:TT:=λ_ H Q=>Q true H
theorem cG {X:Cx}:PF X [] Q4:=λ_ _ _ H _ I h=>wpAny_tests_nil ⟨H,I,h⟩
def uD (σ₀:St) (g:TG) (tf:TT) (te:TE) (x:V) (H:Hp) (NY:V->Hp->Prop) (NN:Hp->Prop):Prop :=
 g x σ₀ H λσ2 H2=>tf σ2 H2 λb H3=>if b=true then te σ2 H3 NY else NN H3
def uJ (J:It) (σ₀:St) (g:TG) (tf:TT) (te:TE) (Q:VK) (H1:Hp):Prop :=
 ∃W:Nat->Nat->List V->Hp->Prop,(∃m,W 0 m [] H1)/\∀i m ys H,W i m ys H →
  (J.stop i H/\ys.length<=sizeLine/\∀p,H p=none->Q (.ref p) (upd H p (.lst ys))) \/
  (J.go i H/\ys.length < sizeLine/\∃(NY:V->Hp->Prop) (NN:Hp->Prop),(∀y H',NY y H'->∃m',m' < m/\W (i+1) m' (ys++[y]) H')/\(∀H',NN H'->∃m',m' < m/\W (i+1) m' ys H') /\
   ∀x H',J.yld i H x H'->uD σ₀ g tf te x H' NY NN)
def FC (wi:TI) (k:Nat) (cap:List Nat) (g:TG) (tf:TT) (te:TE):TE:=λσ H Q=>wi σ H λJ H1=>uJ J (KN k cap σ) g tf te Q H1
abbrev lobj (its:List Value) (n:Nat):Obj:={ cls:=.type "list",data:=.seq its.toArray n }
section
variable {X:Cx} {own capN:List Str} {cap:List Nat} {scope:Scope} {elt tg iter:Expr} {ifs:List Expr} {pos:Pos} {wi:TI} {g:TG} {tf:TT} {te:TE}
theorem DS {use:Option (Value->Sem Unit)} {Qe:Value->Shared->Prop} {fpos:Pos} (hc:X.calm=true) (B:Bk X.env scope own capN) (hcap:AE X capN cap)
  (hi:PI X tg iter wi) (hg:∀Z,PG (AS X own capN scope Z) tg g) (hf:∀Z,PF (AS X own capN scope Z) ifs tf) (he:∀Z,PE (AS X own capN scope Z) elt te)
  (hs:∀x,foldedSetIterable iter X.env x=pure x) {pins:List (Addr×Obj)} {s:Shared} {σ:St} {H:Hp} {Q:VK} (I:Inv X pins σ H s) (h:FC wi own.length cap g tf te σ H Q)
  (fin:∀(D C:Addr) (s':Shared) (H':Hp),Inv X pins σ H' s'->lZ X pins H' C->(∃m,s'.heap.Ns C m)->Q (.ref D) H'->compPost (model X.prog X.w) X.A X.xe use Qe (.ref D) C (.ok .next) s') :
  wpAny (model X.prog X.w) X.A (comprehension (.ListComp elt [⟨tg,iter,ifs,0⟩] scope pos) scope X.env fpos (newList []) false (eval iter X.env) use) Qe X.xe s:=by
 refine wpAny_comprehension_free (use:=use) rfl hs (Cs λy hy hk=>I.ok.has y.1 (B.caps _ (B.frees y hy hk).1)) B.kind B.locs ?_;refine fR (hi pins s σ H _ I h) λv s1 h1=>fR h1 λitv s2 h2=>?_
 obtain ⟨it,fp,tn,J,H2,e,I2,T,st2,f2,W,⟨m0,w0⟩,turn⟩:=h2;subst e;have hfp:∀b∈fp,lZ X pins H2 b/\@LT.lt Nat instLTNat b s2.heap.objs.size:=λb hb=>⟨f2 b hb,let ⟨_,e,_⟩:=T.obj _ _ st2 b hb;Heap.lt_size e⟩
 refine wpAny_newObj_type (Gy ?_) (bx _);have es:(s2.heap.push { cls:=.type "list",data:=.seq ([]:List Value).toArray }).objs.size=s2.heap.objs.size+1:=Heap.size_push ..
 show codeAny _ _ (.compStart _ 0 (.ref it) (.ref s2.heap.objs.size) { newEnv scope (s2.heap.push { cls:=.type "list",data:=.seq ([]:List Value).toArray }).objs.size X.env.globals (cellsFrom ((s2.heap.push { cls:=.type "list",data:=.seq ([]:List Value).toArray }).objs.size+1) scope.names (eG X.env scope.names [])) X.env.qual none .none (some X.env) builtinsNs with scope:=relabel scope X.env })
  (compPost (model X.prog X.w) X.A X.xe use Qe (.ref s2.heap.objs.size) (s2.heap.push { cls:=.type "list",data:=.seq ([]:List Value).toArray }).objs.size)
  { s2 with heap:=pushCells ((s2.heap.push { cls:=.type "list",data:=.seq ([]:List Value).toArray }).push { cls:=.type "dict",data:=.dict #[] }) scope.names }
 have hk1:∀b o,(s2.heap.push { cls:=.type "list",data:=.seq ([]:List Value).toArray }).get? b=some o->(pushCells ((s2.heap.push { cls:=.type "list",data:=.seq ([]:List Value).toArray }).push { cls:=.type "dict",data:=.dict #[] }) scope.names).get? b=some o :=
  λb o e=>pushCells_keeps _ _ _ _ (Heap.get?_push_of_some _ e)
 have hk:∀b o,s2.heap.get? b=some o->(pushCells ((s2.heap.push { cls:=.type "list",data:=.seq ([]:List Value).toArray }).push { cls:=.type "dict",data:=.dict #[] }) scope.names).get? b=some o:=λb o e=>hk1 b o (Heap.get?_push_of_some _ e)
 have hoD:=hk1 s2.heap.objs.size _ (Heap.get?_push_size s2.heap (o:={ cls:=.type "list",data:=.seq ([]:List Value).toArray }) rfl);have hn:=(Heap.Ns.new (s2.heap.push { cls:=.type "list",data:=.seq ([]:List Value).toArray }) (.type "dict")).keeps (pushCells_keeps scope.names _);have hcl:=Ke ((s2.heap.push { cls:=.type "list",data:=.seq ([]:List Value).toArray }).push { cls:=.type "dict",data:=.dict #[] }) (s2.heap.objs.size+1) (by rw[Heap.size_push,es]) scope.names;rw[es] at hn ⊢;generalize pushCells ((s2.heap.push { cls:=.type "list",data:=.seq ([]:List Value).toArray }).push { cls:=.type "dict",data:=.dict #[] }) scope.names=h3 at hk hoD hn hcl ⊢;have Z:Bz:=⟨s2,H2,fp,s2.heap.objs.size+1⟩
 have I3:Inv (AS X own capN scope ⟨s2,H2,fp,s2.heap.objs.size+1⟩) [(s2.heap.objs.size,lobj [] 0)] (KN own.length cap σ) H2 { s2 with heap:=h3 } :=
  Ow (Z:=⟨s2,H2,fp,s2.heap.objs.size+1⟩) (t1:=s2.toks) I2 hc B hcap (uL _) hcl hfp hk hn (ak _) (cb (jt _)) hoD (λv z=>nomatch z)
 have st3:tn 0 h3:=T.keep _ _ _ st2 λb _ o e=>hk b o e
 have loop:codeAny (model X.prog X.w) X.A (.compLoop (.ListComp elt [⟨tg,iter,ifs,0⟩] scope pos) 0 (.ref it) (.ref s2.heap.objs.size) (zZ X.env scope (s2.heap.objs.size+1))) (compPost (model X.prog X.w) X.A X.xe use Qe (.ref s2.heap.objs.size) (s2.heap.objs.size+1)) { s2 with heap:=h3 }:=by
  refine E7 (λm s'=>∃i ys σ' H' its n,Inv (AS X own capN scope ⟨s2,H2,fp,s2.heap.objs.size+1⟩) [(s2.heap.objs.size,lobj its n)] σ' H' s'/\tn i s'.heap/\(∀b∈fp,H' b=none)/\cU ys its/\W i m ys H') ?_ m0
   ⟨0,[],_,H2,[],0,I3,st3,λb hb=>(f2 b hb).1,.nil,w0⟩
  rintro E n s4 ⟨i,ys,σ4,H4,its,k,I4,st4,fr4,rv,w4⟩
  have fpo:∀{pp:List (Addr×Obj)} {H':Hp},(∀p∈pp,p.1=s2.heap.objs.size)->(∀b∈fp,H' b=none)->∀b∈fp,lZ (AS X own capN scope ⟨s2,H2,fp,s2.heap.objs.size+1⟩) pp H' b:=λ{pp H'} hpp hn b hb=>by
   obtain ⟨e1,e2⟩:=I4.ok.exf b hb;refine ⟨hn b hb,e1,I4.ok.exfs b hb,.inl hb,e2,λp hp=>?_⟩;have hp':p∈pp:=by simpa [AS] using hp
   have l:=(hfp b hb).2;rw[hpp p hp'];exact λz=>eH _ (by rw[<- z] at l;exact l)
  have pinD:∀{its:List Value} {n:Nat},∀p∈[(s2.heap.objs.size,lobj its n)],p.1=s2.heap.objs.size:=λp hp=>by simp at hp;rw[hp]
  rcases turn i n ys H4 w4 with ⟨stop,hz,q⟩ | ⟨go,hlt,NY,NN,hNY,hNN,step⟩
  ·refine fR (T.done (AS X own capN scope ⟨s2,H2,fp,s2.heap.objs.size+1⟩) rfl rfl rfl rfl i _ s4 σ4 H4 E I4 (fpo pinD fr4) st4 stop) λr s5 ⟨hr,I5⟩=>?_
   subst hr;have pD:=I5.pin (s2.heap.objs.size,lobj its k) (by simp);have I6:=Ox (Z:=⟨s2,H2,fp,s2.heap.objs.size+1⟩) I2 hfp (ak _) I5 rv hz
   have hC:upd H4 s2.heap.objs.size (.lst ys) (s2.heap.objs.size+1)=none:=by
    rw[bH (JM (jt _))];exact I5.free
   obtain ⟨m,hm,_⟩:=I5.loc;exact fin _ _ s5 _ I6 (I2.fpOk (uL _) hC) ⟨m,hm⟩ (q _ pD.2.1)
  ·refine fR (T.item (AS X own capN scope ⟨s2,H2,fp,s2.heap.objs.size+1⟩) rfl rfl rfl rfl i _ s4 σ4 H4 E I4 (fpo pinD fr4) st4 go) λr s5 ⟨u,hr,h5⟩=>?_
   subst hr;refine fR h5 λ_ s6 ⟨x,H6,I6,r6,y6,st6,fr6⟩=>?_
   have I6':=(MJ (Z:=⟨s2,H2,fp,s2.heap.objs.size+1⟩) I2 B hcap hfp I6).pinned (fpo pinD fr6) (T.obj _ _ st6)
   have back:∀{σ7:St} {H7:Hp} {s7:Shared},Inv (AS X own capN scope ⟨s2,H2,fp,s2.heap.objs.size+1⟩) ([(s2.heap.objs.size,lobj its k)]++BM fp s6.heap) σ7 H7 s7 →
     Inv (AS X own capN scope ⟨s2,H2,fp,s2.heap.objs.size+1⟩) [(s2.heap.objs.size,lobj its k)] σ7 H7 s7/\tn (i+1) s7.heap/\∀b∈fp,H7 b=none:=λ{σ7 H7 s7} I7=>by
    refine ⟨I7.unpinned,T.keep _ _ _ st6 λb hb o e=>(I7.pin (b,o) (bG _ (bG _ (tw hb e)))).1,λb hb=>?_⟩;obtain ⟨o,e,d⟩:=T.obj _ _ st6 b hb;exact (I7.pin (b,o) (bG _ (bG _ (tw hb e)))).2.1
   refine Pf (hg _ _ s6 _ H6 x u _ I6' r6 (step x H6 y6)) λ_ s7 ⟨σ7,H7,I7,q7⟩=>?_
   refine Pf (hf _ _ s7 σ7 H7 _ I7 q7) λok s8 ⟨H8,I8,q8⟩=>?_
   cases ok with
   | false =>
    rw[if_neg bg] at q8 ⊢;obtain ⟨m',hm,w8⟩:=hNN H8 q8;obtain ⟨J1,J2,J3⟩:=back I8;exact ⟨m',hm,i+1,ys,σ7,H8,its,k,J1,J2,J3,rv,w8⟩
   | true =>
    rw[if_pos rfl] at q8 ⊢;refine Pf (he _ _ s8 σ7 H8 _ I8 q8) λz s9 ⟨y,H9,I9,r9,q9⟩=>?_
    obtain ⟨J1,J2,J3⟩:=back I9;obtain ⟨m',hm,w9⟩:=hNY y H9 q9;have pD:=J1.pin (s2.heap.objs.size,lobj its k) (by simp);have hl:=rv.length;refine call_meets F.slot_list_append ⟨_,pD.1,rfl⟩ F.entry_list_append (F.args_list_append_2 _ _) (PySem.list_append s2.heap.objs.size its.toArray k z (by rw[aL];lia)) ⟨pD.1,?_⟩;have e9:=nA pD.1 (λa=>a.push z);have e9':(its.toArray.push z)=(its++[z]).toArray:=by simp
    rw[e9'] at e9;obtain ⟨n',e9⟩:∃n',(s9.heap.update s2.heap.objs.size (Obj.mapSeq λa=>a.push z)).get? s2.heap.objs.size=some (lobj (its++[z]) n'):=⟨_,e9⟩
    have J4:Inv (AS X own capN scope ⟨s2,H2,fp,s2.heap.objs.size+1⟩) [] σ7 H9 { s9 with heap:=s9.heap.update s2.heap.objs.size (Obj.mapSeq λa=>a.push z),toks:=s9.toks } :=
     (J1.pins_of (pins':=[]) λp hp=>nomatch hp).turned (λb o hb e=>(Heap.get?_update_other s9.heap _ (Ne.symm hb)).trans e) pD.2.1 pD.2.2.1 (.inr (ak _)) (λx c hx z=>by
      rcases kg (Z:=⟨s2,H2,fp,s2.heap.objs.size+1⟩) B I2 hx with ⟨_,m⟩ | ⟨_,_,m⟩
      ·have:=(hcl.empty _ _ m).2;have z':@Eq Nat c s2.heap.objs.size:=z
       lia
      ·have:=Fb (Z:=⟨s2,H2,fp,s2.heap.objs.size+1⟩) I2 m;rw[z] at this;exact eH _ this) λp hp=>by simp [AS] at hp
    have nfp:∀b∈fp,b≠s2.heap.objs.size:=λb hb z=>by have:=(hfp b hb).2;rw[z] at this;exact eH _ this
    refine ⟨m',hm,i+1,ys++[y],σ7,H9,its++[z],n',J4.pins_of λp hp=>?_,T.keep _ _ _ J2 λb hb o e=>(Heap.get?_update_other s9.heap _ (Ne.symm (nfp b hb))).trans e,J3,rv.append (.cons r9 .nil),w9⟩;have ep:p=(s2.heap.objs.size,lobj (its++[z]) n'):=by simpa using hp
    rw[ep];exact ⟨e9,pD.2.1,pD.2.2.1,pD.2.2.2.1,λv z=>nomatch z⟩
 exact codeAny_compStart_list loop (T.self _ _ _ _ _ st3 loop)
theorem cC (own capN:List Str) (cap:List Nat) (hi:PI X tg iter wi) (hg:∀Z,PG (AS X own capN scope Z) tg g) (hf:∀Z,PF (AS X own capN scope Z) ifs tf) (he:∀Z,PE (AS X own capN scope Z) elt te)
  (h1:Sx scope own capN=true:=by decide +kernel) (h2:DU X.env capN=true:=by rfl) (hcap:AE X capN cap:=by rfl) (hc:X.calm=true:=by rfl) (hs:∀x,foldedSetIterable iter X.env x=pure x:=by intro _;rfl) :
  PE X (.ListComp elt [⟨tg,iter,ifs,0⟩] scope pos) (FC wi own.length cap g tf te):=by
 intro pins s σ H Q I h;rw[eval_ListComp];refine DS (use:=none) hc (Bk.of h1 h2) hcap hi hg hf he hs I h λD C s' H' I' fC hm q=>?_
 obtain ⟨m,hm⟩:=hm;refine ⟨m,hm,λh' hs'=>?_⟩;obtain ⟨f0,f1,f2,f3,f4,f5⟩:=fC;exact ⟨.ref D,H',I'.turned (t':=s'.toks) (λb o hb e=>(hs'.2 b hb).trans e) f0 f1 f3 f4 f5,rfl,q⟩
theorem pY (i:Nat) (own capN:List Str) (cap:List Nat) {x:Str} {pos' spos:Pos} (hN:X.N.Nodup) (hi':X.N[i]?=some x) (hx:X.env.scope.names.lookup x=some .local) (hi:PI X tg iter wi) (hg:∀Z,PG (AS X own capN scope Z) tg g) (hf:∀Z,PF (AS X own capN scope Z) ifs tf) (he:∀Z,PE (AS X own capN scope Z) elt te)
  (h1:Sx scope own capN=true:=by decide +kernel) (h2:DU X.env capN=true:=by rfl) (hcap:AE X capN cap:=by rfl) (hc:X.calm=true:=by rfl) (hs:∀x,foldedSetIterable iter X.env x=pure x:=by intro _;rfl)
  (hsw:swapsWith (.ListComp elt [⟨tg,iter,ifs,0⟩] scope pos) (some (.Name x pos')) spos.line X.env=pure true:=by rfl) :
  PS X (.Assign [.Name x pos'] (.ListComp elt [⟨tg,iter,ifs,0⟩] scope pos) spos) (Nh (FC wi own.length cap g tf te) (Jt i)):=by
 intro pins s σ H D I h;rw[exec_Assign_Name_used _ _ _ _ hsw];refine wpAny_bind (wpAny_standAt (wpAny_bind ?_));rw[arm_evalThenUse_ListComp];refine wpAny_bind (DS (Q:=λv H1=>D.nx (σ.set i (some v)) H1) (use:=some _) hc (Bk.of h1 h2) hcap hi hg hf he hs I h λL C s' H' I' fC hm q=>?_);obtain ⟨m,hm⟩:=hm;obtain ⟨f0,f1,f2,f3,f4,f5⟩:=fC;refine wpAny_assign_Name (Dk I' hN hi' (.inl hx) (v:=.ref L) rfl (λs'' I'' ⟨a,sb,ha⟩=>?_) (.inr hx))
 have hCa:C≠a:=by
  rcases ha with e | e
  ·rw[e];exact f1
  ·exact (f4 x a e).symm
 refine ⟨m,hm.at' λo e=>(sb.2 C hCa).trans e,λh' hs'=>?_⟩;have I3:=I''.turned (h':=h') (t':=s''.toks) (λb o hb e=>(hs'.2 b hb).trans e) f0 f1 f3 f4 f5;exact wpAny_pure (wpAny_pure ⟨_,H',I3,q⟩)
end
section
variable {K:FG9} {a:Addr} {xs:List V} {g:TG} {tf:TT} {te:TE} {Q:VK} {σ₀:St} {H:Hp}
theorem fY (Pv:Nat->List V->Hp->Prop) (hz:xs.length<=sizeLine) (h0:Pv 0 [] H) (hl:∀i ys H,i<=xs.length->Pv i ys H->bS K H a xs)
  (hs:∀i x ys H,xs[i]?=some x->ys.length<=i->Pv i ys H->uD σ₀ g tf te x H (λy H'=>Pv (i+1) (ys++[y]) H') (λH'=>Pv (i+1) ys H'))
  (hd:∀ys H,ys.length<=xs.length->Pv xs.length ys H->∀p,H p=none->Q (.ref p) (upd H p (.lst ys))):uJ (MW K a) σ₀ g tf te Q H:=by
 refine ⟨λi m ys H=>m=xs.length - i/\i<=xs.length/\ys.length<=i/\Pv i ys H,⟨xs.length,by simp,bx _,bx _,h0⟩,?_⟩;rintro i m ys H ⟨rfl,hi,hy,p⟩;have q:=hl i ys H hi p;by_cases hlt:i < xs.length
 ·refine .inr ⟨⟨xs,xs[i],q,by simp [hlt]⟩,by lia,λy H'=>Pv (i+1) (ys++[y]) H',λH'=>Pv (i+1) ys H',λy H' p'=>⟨xs.length - (i+1),by lia,rfl,hlt,by rw[av,bB];lia,p'⟩,λH' p'=>⟨xs.length - (i+1),by lia,rfl,hlt,by lia,p'⟩,λx H' y=>?_⟩;obtain ⟨e,y⟩:=y;subst e;exact hs i x ys _ (y xs q) hy p
 ·have e:i=xs.length:=by lia
  subst e;exact .inl ⟨⟨xs,q,ak _⟩,by lia,hd ys H hy p⟩
theorem MF (Pv:Nat->List V->Hp->Prop) (hz:xs.length<=sizeLine) (h0:Pv 0 [] H) (hl:∀i ys H,i<=xs.length->Pv i ys H->lA K H a xs)
  (hs:∀i x ys H,xs[i]?=some x->ys.length<=i->Pv i ys H->uD σ₀ g tf te x H (λy H'=>Pv (i+1) (ys++[y]) H') (λH'=>Pv (i+1) ys H'))
  (hd:∀ys H,ys.length<=xs.length->Pv xs.length ys H->∀p,H p=none->Q (.ref p) (upd H p (.lst ys))):uJ (OE K a) σ₀ g tf te Q H:=by
 refine ⟨λi m ys H=>m=xs.length - i/\i<=xs.length/\ys.length<=i/\Pv i ys H,⟨xs.length,by simp,bx _,bx _,h0⟩,?_⟩;rintro i m ys H ⟨rfl,hi,hy,p⟩;have q:=hl i ys H hi p;by_cases hlt:i < xs.length
 ·refine .inr ⟨⟨xs,xs[i],q,by simp [hlt]⟩,by lia,λy H'=>Pv (i+1) (ys++[y]) H',λH'=>Pv (i+1) ys H',λy H' p'=>⟨xs.length - (i+1),by lia,rfl,hlt,by rw[av,bB];lia,p'⟩,λH' p'=>⟨xs.length - (i+1),by lia,rfl,hlt,by lia,p'⟩,λx H' y=>?_⟩;obtain ⟨e,y⟩:=y;subst e;exact hs i x ys _ (y xs q) hy p
 ·have e:i=xs.length:=by lia
  subst e;exact .inl ⟨⟨xs,q,ak _⟩,by lia,hd ys H hy p⟩
theorem tO {lo:Int} {n:Nat} (Pv:Nat->List V->Hp->Prop) (hz:n<=sizeLine) (h0:Pv 0 [] H)
  (hs:∀i ys H,i < n->ys.length<=i->Pv i ys H->uD σ₀ g tf te (.int (lo+i)) H (λy H'=>Pv (i+1) (ys++[y]) H') (λH'=>Pv (i+1) ys H'))
  (hd:∀ys H,ys.length<=n->Pv n ys H->∀p,H p=none->Q (.ref p) (upd H p (.lst ys))):uJ (Hw lo n) σ₀ g tf te Q H:=by
 refine ⟨λi m ys H=>m=n - i/\i<=n/\ys.length<=i/\Pv i ys H,⟨n,by simp,bx _,bx _,h0⟩,?_⟩;rintro i m ys H ⟨rfl,hi,hy,p⟩;by_cases hlt:i < n
 ·refine .inr ⟨hlt,by lia,λy H'=>Pv (i+1) (ys++[y]) H',λH'=>Pv (i+1) ys H',λy H' p'=>⟨n - (i+1),by lia,rfl,hlt,by rw[av,bB];lia,p'⟩,λH' p'=>⟨n - (i+1),by lia,rfl,hlt,by lia,p'⟩,λx H' y=>?_⟩;obtain ⟨e,y⟩:=y;subst e y;exact hs i ys _ hlt hy p
 ·have e:i=n:=by lia
  subst e;exact .inl ⟨ak _,by lia,hd ys H hy p⟩
end
open Nm
def js (i j:Int):Prop:=QN i j\/∃m n,Sz m i/\Sz n j/\m+n<=1000000
def sI (i j:Int):Prop:=j≠0/\Sz 8999 j
theorem Cu {k:Nat} {i:Int} (h:Sz k i):Builtin.Int.intBits i<=k:=by
 unfold Builtin.Int.intBits;by_cases e:i=0
 ·subst e;simp
 ·have e':(i == 0)=false:=by simpa using e
  rw[e'];have hn:i.natAbs≠0:=by lia
  have:=(Nat.log2_lt hn).mpr h;simp only[jI,if_false]
  lia
theorem js.ok {i j:Int} (h:js i j):IntMulOk i j:=by
 rcases h with h | ⟨m,n,h1,h2,h3⟩
 ·exact h.ok
 ·have e:(2:Nat)^20=1048576:=by decide
  exact .of_bits (by have:=Cu h1;lia) (by have:=Cu h2;lia)
section
variable {X:Cx} {a b:Expr} {ta tb:TE} {pos:Pos}
theorem dq:Aa X (binaryOp .Mult) (rI js λi j=>.int (i*j)):=Sv λ_ _ _ _ _ _ _ hc q=>mul_int q hc.ok
theorem jw:Aa X (binaryOp .FloorDiv) (rI sI λi j=>.int (i.fdiv j)):=Sv λi j _ _ _ _ _ hc q=>by
 refine floordiv_int hc.1 q (.inl (PyProof.noPylong_of_log2 ?_));have hn:j.natAbs≠0:=by have:=hc.1;lia
 have:=(Nat.log2_lt hn).mpr hc.2
 lia
def Q6 (t u:TS):TS:=λD σ H=>∃N:St->Hp->Prop,t { D with nx:=N } σ H/\∀σ' H',N σ' H'->u D σ' H'
theorem jb {st:Stmt} {rest:List Stmt} {t u:TS} (h1:PS X st t) (h2:IF X rest u):IF X (st :: rest) (Q6 t u):=by
 intro pins s σ H D I h;obtain ⟨N,h,k⟩:=h;refine wpAny_execs_cons (fR (h1 pins s σ H { D with nx:=N } I h) λf s1 q=>?_);cases f with
 | next =>
  obtain ⟨σ',H',I',q⟩:=q;exact h2 pins s1 σ' H' D I' (k _ _ q)
 | ret v=>exact q
 | brk=>exact q
 | cont=>exact q
def OS (K:FG9):V->V->Hp->VK->Prop:=λo i H Q=>∃p xs k v,o=.ref p/\i=.int k/\bS K H p xs/\IA xs k=some v/\Q v H
theorem Mh:Sf X (OS X.K):=by
 intro pins s σ H o i ov iv Q I ro ri h;obtain ⟨p,xs,k,z,rfl,rfl,hq,he,q⟩:=h;cases ro;obtain ⟨t,rfl⟩:=ri;obtain ⟨its,r,pl,hz⟩:=I.list hq;obtain ⟨j,h1,h2,h3,h4,h5⟩:=Fd he;obtain ⟨w,ew,rw'⟩:=r.get h2;have hl:=r.length;have hn:=Cj;have fin:EP X pins σ Q w s:=⟨z,H,I,rw',q⟩;by_cases h0:0<=k
 ·have hj:k.toNat=j:=by
   rw[seqIndex_of h0 h5] at h1;exact ck h1
  exact wpAny_getItem_list pl.isList h0 (by lia) (by rw[hj];simpa using ew) fin
 ·have hj:(k+(its.toArray.size:Int)).toNat=j:=by
   rw[seqIndex_neg (by lia) h4] at h1;rw[aL,<- hl];exact ck h1
  exact wpAny_getItem_list_neg pl.isList (by lia) (by rw[aL] <;> lia) (by lia) (by rw[hj];simpa using ew) fin
def HR (K:FG9) (T:String):V->Hp->VK->Prop:=λx H Q=>∃t b,yf K H x t/\PySem.W.kitOne K t (.type T)=some b/\Q (.bl b) H
theorem rD {c:Str} {T:String} {p p2:Pos} (hg:Gl X "isinstance") (hm:X.mg "isinstance"=none) (hb:bootBuiltins c=some (.type T)) (hmc:X.mg c=none) (ha:PE X a ta) (hgc:Gl X c:=by rfl) (hn:c≠"__name__":=by decide)
  (hd:(c == ("__debug__":Str))=false:=by decide) (he:starEach [a,.Name c p2] X.env=[(false,eval a X.env),(false,eval (.Name c p2) X.env)]:=by rfl)
  (hpl:(backTo pos (starEach [.Name c p2] X.env)).any (·.1)=false:=by rfl) (he2:starEach [.Name c p2] X.env=[(false,eval (.Name c p2) X.env)]:=by rfl):PE X (.Call (.Name "isinstance" p) [a,.Name c p2] [] pos) (Su (HR X.K T) ta):=by
 intro pins s σ H Q I h;refine wpAny_Call_Name_kw (lV I hg hm PyProof.Rows.boot_isinstance ?_);have hA:PA X [a,.Name c p2] (uU ta (uU (tC (.ty T)) JS)):=aa ha (aa (A0 hgc hmc hb rfl hn hd) ag he2) (by rw[he,he2])
 have hq:uU ta (uU (tC (.ty T)) JS) σ H (λvs H1=>∃x,vs=[x,.ty T]/\HR X.K T x H1 Q):=by
  show ta σ H λx H1=>∃x',[x,V.ty T]=[x',V.ty T]/\HR X.K T x' H1 Q
  have e:(λx H1=>∃x',[x,V.ty T]=[x',V.ty T]/\HR X.K T x' H1 Q)=λx H1=>HR X.K T x H1 Q:=by
   funext x H1;apply propext;constructor
   ·rintro ⟨x',e,q⟩;cases e;exact q
   ·intro q;exact ⟨x,rfl,q⟩
  rw[e];exact h
 refine PyProof.Rows.callWith_builtin1 (fR (hA pos pins s σ H _ I hq) λus s1 ⟨vs,H1,I1,r1,x,e,q1⟩=>?_) (by rw[he,he2]) hpl;subst e;obtain ⟨u,w',rfl,ru,rt⟩:=vals2 r1;cases rt;obtain ⟨t,bb,ty,ek,q⟩:=q1;exact DL I1 ru ty ek λtk=>⟨.bl bb,H1,I1.tok tk,rfl,q⟩
end
structure Kind (α:Type) [DecidableEq α] where
 R:FG9->Hp->V->α->Prop
 d:Nat
 inj:∀{X:Cx} {pins:List (Addr×Obj)} {σ:St} {H:Hp} {s:Shared} {x:V} {a b:α},Inv X pins σ H s->R X.K H x a->R X.K H x b->a=b
 rc:∀{X:Cx} {pins:List (Addr×Obj)} {σ:St} {H:Hp} {s:Shared} {x y:V} {v u:Value} {a b:α} {A:Around},Inv X pins σ H s->RelV x v->RelV y u->R X.K H x a->R X.K H y b->A.units+d < cLine->SeqAt.RcAt A s v u (decide (a=b))
 ne:∀{X:Cx} {pins:List (Addr×Obj)} {σ:St} {H:Hp} {s:Shared} {x y:V} {v u:Value} {a b:α} {A:Around},Inv X pins σ H s->RelV x v->RelV y u->R X.K H x a->R X.K H y b->A.units+d < cLine->SeqAt.RcNeAt A s v u (!decide (a=b))
 eq:∀{X:Cx} {pins:List (Addr×Obj)} {σ:St} {H:Hp} {s:Shared} {x y:V} {v u:Value} {a b:α} {A:Around},Inv X pins σ H s->RelV x v->RelV y u->R X.K H x a->R X.K H y b->A.units+d < cLine->SeqAt.EqAt A s v u (decide (a=b))
def RU:Kind Int where
 R:=λ_ _ x i=>x=.int i
 d:=0
 inj:=λ_ h1 h2=>by rw[h1] at h2;cases h2;rfl
 rc:=λ{X pins σ H s x y v u a b A} I rx ry h1 h2 _=>by
  subst h1 h2;obtain ⟨t,rfl⟩:=rx;obtain ⟨t',rfl⟩:=ry;have q:=SeqAt.RcAt.int_int (A:=A) (s:=s) a t b t';rwa [CL] at q
 ne:=λ{X pins σ H s x y v u a b A} I rx ry h1 h2 _=>by
  subst h1 h2;obtain ⟨t,rfl⟩:=rx;obtain ⟨t',rfl⟩:=ry;have q:=SeqAt.RcNeAt.int_int (A:=A) (s:=s) a t b t';rwa [CL] at q
 eq:=λ{X pins σ H s x y v u a b A} I rx ry h1 h2 _=>by
  subst h1 h2;obtain ⟨t,rfl⟩:=rx;obtain ⟨t',rfl⟩:=ry;have q:=SeqAt.EqAt.int_int (A:=A) (s:=s) a t b t';rwa [CL] at q
theorem lS {α β:Type} {F:α->β->Prop}:∀{l1:List α} {l2:List β} {i:Nat} (_:Paired F l1 l2) (h1:i < l1.length) (h2:i < l2.length),F l1[i] l2[i]
 | _,_,_,.nil,h1,_=>absurd h1 (fI _)
 | _,_,0,.cons r _,_,_=>r
 | _,_,i+1,.cons _ t,h1,h2=>lS (i:=i) t (Nat.lt_of_succ_lt_succ h1) (Nat.lt_of_succ_lt_succ h2)
theorem pJ {α β:Type} {F:α->β->Prop} (hF:∀a b x,F a x->F b x->a=b):∀{l1 l2:List α} {l:List β},Paired F l1 l->Paired F l2 l->l1=l2
 | _,_,_,.nil,.nil=>rfl
 | _,_,_,.cons r t,.cons r' t'=>by rw[hF _ _ _ r r',pJ hF t t']
theorem yN {α:Type} [DecidableEq α] (as bs:List α) (h:as.length=bs.length):(List.range as.length).all (λj=>decide (as[j]?=bs[j]?))=decide (as=bs):=by
 rw[o5,sL,decide_eq_true_iff];constructor
 ·intro q;apply iw;intro i;by_cases hi:i < as.length
  ·exact of_decide_eq_true (q i (D8.mpr hi))
  ·rw[aR (by lia),aR (by lia)]
 ·rintro rfl i _;simp
section
variable {α:Type} [DecidableEq α] (k:Kind α)
theorem Kind.items {X:Cx} {pins:List (Addr×Obj)} {σ:St} {H:Hp} {s:Shared} {A:Around} (I:Inv X pins σ H s) (hA:A.units+k.d < cLine) {xs ys:List V} {us ws:List Value} {as bs:List α}
  (rx:cU xs us) (ry:cU ys ws) (ha:Paired (λa x=>k.R X.K H x a) as xs) (hb:Paired (λa x=>k.R X.K H x a) bs ys) :
  ∀j (h1:j < us.toArray.size) (h2:j < ws.toArray.size),SeqAt.EqAt A s us.toArray[j] ws.toArray[j] (decide (as[j]?=bs[j]?)):=λj h1 h2=>by
 have l1:j < us.length:=by simpa using h1
 have l2:j < ws.length:=by simpa using h2
 have e1:=rx.length;have e2:=ry.length;have e3:=ha.length;have e4:=hb.length;obtain ⟨u,hu,ru⟩:=rx.get (i:=j) (x:=xs[j]'(by lia)) (by simp);obtain ⟨w,hw,rw'⟩:=ry.get (i:=j) (x:=ys[j]'(by lia)) (by simp);have q:=k.eq (A:=A) I ru rw' (lS ha (by lia) (by lia)) (lS hb (by lia) (by lia)) hA
 have eu:us.toArray[j]=u:=by
  have:=hu;rw[af l1] at this;simpa using this
 have ew:ws.toArray[j]=w:=by
  have:=hw;rw[af l2] at this;simpa using this
 rw[eu,ew,af (show j < as.length by lia),af (show j < bs.length by lia)];have e5:decide (some as[j]=some bs[j])=decide (as[j]=bs[j]):=by simp
 rw[e5];exact q
theorem Ec {α:Type} [DecidableEq α] (as bs:List α) {n m:Nat} (h1:as.length=n) (h2:bs.length=m):((List.range (min n m)).all (λj=>decide (as[j]?=bs[j]?)) && n == m)=decide (as=bs):=by
 subst h1 h2;by_cases e:as.length=bs.length
 ·rw[show min as.length bs.length=as.length by lia,yN as bs e];simp [e]
 ·have h1:(as.length == bs.length)=false:=by simpa using e
  rw[h1,Bool.and_false];exact (decide_eq_false λz=>e (by rw[z])).symm
def S0:Kind (List α) where
 R:=λK H x as=>∃p xs,x=.ref p/\lA K H p xs/\Paired (λa x=>k.R K H x a) as xs
 d:=k.d+1
 inj:=λ{X pins σ H s x a b} I h1 h2=>by
  obtain ⟨p,xs,rfl,hp,pa⟩:=h1;obtain ⟨q,ys,e,hq,pb⟩:=h2;cases e;have e:=I.tuple_inj hp hq;subst e;exact pJ (F:=λa x=>k.R X.K H x a) (λa b x=>k.inj I) pa pb
 rc:=λ{X pins σ H s x y v u a b A} I rx ry h1 h2 hA=>by
  obtain ⟨p,xs,rfl,hp,pa⟩:=h1;obtain ⟨q,ys,rfl,hq,pb⟩:=h2;cases rx;cases ry;obtain ⟨us,r1,t1,_⟩:=I.tuple hp;obtain ⟨ws,r2,t2,_⟩:=I.tuple hq;have z:=SeqAt.RcAt.tuples (A:=A) (e:=λj=>decide (a[j]?=b[j]?)) (show s.heap.IsTuple p us.toArray from t1) (show s.heap.IsTuple q ws.toArray from t2) (by lia) (k.items (A:=A.in1) I (by show A.units+1+k.d < cLine;lia) r1 r2 pa pb);rwa [Ec a b (by rw[pa.length,r1.length];simp) (by rw[pb.length,r2.length];simp)] at z
 ne:=λ{X pins σ H s x y v u a b A} I rx ry h1 h2 hA=>by
  obtain ⟨p,xs,rfl,hp,pa⟩:=h1;obtain ⟨q,ys,rfl,hq,pb⟩:=h2;cases rx;cases ry;obtain ⟨us,r1,t1,_⟩:=I.tuple hp;obtain ⟨ws,r2,t2,_⟩:=I.tuple hq;have z:=SeqAt.RcNeAt.tuples (A:=A) (e:=λj=>decide (a[j]?=b[j]?)) (show s.heap.IsTuple p us.toArray from t1) (show s.heap.IsTuple q ws.toArray from t2) (by lia) (k.items (A:=A.in1) I (by show A.units+1+k.d < cLine;lia) r1 r2 pa pb);rwa [Ec a b (by rw[pa.length,r1.length];simp) (by rw[pb.length,r2.length];simp)] at z
 eq:=λ{X pins σ H s x y v u a b A} I rx ry h1 h2 hA=>by
  obtain ⟨p,xs,rfl,hp,pa⟩:=h1;obtain ⟨q,ys,rfl,hq,pb⟩:=h2;cases rx;cases ry;by_cases e:p=q
  ·subst e;have e:=I.tuple_inj hp hq;subst e;rw[pJ (F:=λa x=>k.R X.K H x a) (λa b x=>k.inj I) pa pb,decide_eq_true rfl];exact SeqAt.EqAt.same _
  ·obtain ⟨us,r1,t1,_⟩:=I.tuple hp;obtain ⟨ws,r2,t2,_⟩:=I.tuple hq;have z:=SeqAt.RcAt.tuples (A:=A) (e:=λj=>decide (a[j]?=b[j]?)) (show s.heap.IsTuple p us.toArray from t1) (show s.heap.IsTuple q ws.toArray from t2) (by lia) (k.items (A:=A.in1) I (by show A.units+1+k.d < cLine;lia) r1 r2 pa pb);rw[Ec a b (by rw[pa.length,r1.length];simp) (by rw[pb.length,r2.length];simp)] at z;exact .of_refs e z
theorem Il {X:Cx} {pins:List (Addr×Obj)} {σ:St} {H:Hp} {s:Shared} {p q:Addr} {xs ys:List V} {a b:List α} {A:Around} (I:Inv X pins σ H s) (hp:bS X.K H p xs) (hq:bS X.K H q ys)
  (pa:Paired (λa x=>k.R X.K H x a) a xs) (pb:Paired (λa x=>k.R X.K H x a) b ys) (hA:A.units+(k.d+1) < cLine) :
  SeqAt.RcAt A s (.ref p) (.ref q) (decide (a=b))/\SeqAt.RcNeAt A s (.ref p) (.ref q) (!decide (a=b)):=by
 obtain ⟨us,r1,t1,_⟩:=I.list hp;obtain ⟨ws,r2,t2,_⟩:=I.list hq;have l1:=r1.length;have l2:=r2.length;have l3:=pa.length;have l4:=pb.length;by_cases e:us.length=ws.length
 ·have it:=k.items (A:=A.in1) I (by show A.units+1+k.d < cLine;lia) r1 r2 pa pb;have z:=SeqAt.RcAt.lists (A:=A) (e:=λj=>decide (a[j]?=b[j]?)) t1.isList t2.isList (by simpa using e) (by lia) it;have z2:=SeqAt.RcNeAt.lists (A:=A) (e:=λj=>decide (a[j]?=b[j]?)) t1.isList t2.isList (by simpa using e) (by lia) it;have e1:us.toArray.size=a.length:=by rw[aL];lia
  rw[e1,yN a b (by lia)] at z z2;exact ⟨z,z2⟩
 ·have hne:¬a=b:=λz=>e (by have:=congrArg List.length z;lia)
  rw[decide_eq_false hne];exact ⟨SeqAt.RcAt.lists_lengths t1.isList t2.isList (by simpa using e) (by lia),SeqAt.RcNeAt.lists_lengths t1.isList t2.isList (by simpa using e) (by lia)⟩
def RT:Kind (List α) where
 R:=λK H x as=>∃p xs,x=.ref p/\bS K H p xs/\Paired (λa x=>k.R K H x a) as xs
 d:=k.d+1
 inj:=λ{X pins σ H s x a b} I h1 h2=>by
  obtain ⟨p,xs,rfl,hp,pa⟩:=h1;obtain ⟨q,ys,e,hq,pb⟩:=h2;cases e;have e:=I.list_inj hp hq;subst e;exact pJ (F:=λa x=>k.R X.K H x a) (λa b x=>k.inj I) pa pb
 rc:=λ{X pins σ H s x y v u a b A} I rx ry h1 h2 hA=>by
  obtain ⟨p,xs,rfl,hp,pa⟩:=h1;obtain ⟨q,ys,rfl,hq,pb⟩:=h2;cases rx;cases ry;exact (Il k I hp hq pa pb hA).1
 ne:=λ{X pins σ H s x y v u a b A} I rx ry h1 h2 hA=>by
  obtain ⟨p,xs,rfl,hp,pa⟩:=h1;obtain ⟨q,ys,rfl,hq,pb⟩:=h2;cases rx;cases ry;exact (Il k I hp hq pa pb hA).2
 eq:=λ{X pins σ H s x y v u a b A} I rx ry h1 h2 hA=>by
  obtain ⟨p,xs,rfl,hp,pa⟩:=h1;obtain ⟨q,ys,rfl,hq,pb⟩:=h2;cases rx;cases ry;by_cases e:p=q
  ·subst e;have e:=I.list_inj hp hq;subst e;rw[pJ (F:=λa x=>k.R X.K H x a) (λa b x=>k.inj I) pa pb,decide_eq_true rfl];exact SeqAt.EqAt.same _
  ·exact .of_refs e (Il k I hp hq pa pb hA).1
def Kind.via {β:Type} [DecidableEq β] (f:β->α) (fi:∀a b,f a=f b->a=b) (R':FG9->Hp->V->β->Prop) (im:∀{K H x b},R' K H x b->k.R K H x (f b)):Kind β where
 R:=R'
 d:=k.d
 inj:=λI h1 h2=>fi _ _ (k.inj I (im h1) (im h2))
 rc:=λ{X pins σ H s x y v u a b A} I rx ry h1 h2 hA=>by
  have z:=k.rc (A:=A) I rx ry (im h1) (im h2) hA;rwa [decide_eq_decide.mpr (show f a=f b↔a=b from ⟨fi a b,λe=>by rw[e]⟩)] at z
 ne:=λ{X pins σ H s x y v u a b A} I rx ry h1 h2 hA=>by
  have z:=k.ne (A:=A) I rx ry (im h1) (im h2) hA;rwa [decide_eq_decide.mpr (show f a=f b↔a=b from ⟨fi a b,λe=>by rw[e]⟩)] at z
 eq:=λ{X pins σ H s x y v u a b A} I rx ry h1 h2 hA=>by
  have z:=k.eq (A:=A) I rx ry (im h1) (im h2) hA;rwa [decide_eq_decide.mpr (show f a=f b↔a=b from ⟨fi a b,λe=>by rw[e]⟩)] at z
end
def zj (K:FG9) (H:Hp) (x:V) (n:Int×Int):Prop:=∃p,x=.ref p/\lA K H p [.int n.1,.int n.2]
def RS:Kind (Int×Int):=(S0 RU).via (λn=>[n.1,n.2]) (λa b e=>by cases a;cases b;simp at e;rw[e.1,e.2]) zj λ⟨p,e,h⟩=>⟨p,_,e,h,.cons rfl (.cons rfl .nil)⟩
def SW (K:FG9):R2:=λx y H Q=>∃(α:Type) (_:DecidableEq α) (k:Kind α) (a b:α),k.d<=50/\k.R K H x a/\k.R K H y b/\Q (.bl (decide (a=b))) H
def SV (K:FG9):R2:=λx y H Q=>∃(α:Type) (_:DecidableEq α) (k:Kind α) (a b:α),k.d<=50/\k.R K H x a/\k.R K H y b/\Q (.bl (!decide (a=b))) H
theorem EA {X:Cx} (hu:X.A.units+50 < cLine):Aa X (compareOp .Eq) (SW X.K):=by
 intro pins s σ H x y v u Q I rx ry h;obtain ⟨α,_,k,a,b,hd,ha,hb,q⟩:=h;exact k.rc (A:=X.A) I rx ry ha hb (by lia) _ _ _ _ ⟨.bl (decide (a=b)),H,I,rfl,q⟩
theorem HY {X:Cx} (hu:X.A.units+50 < cLine):Aa X (compareOp .NotEq) (SV X.K):=by
 intro pins s σ H x y v u Q I rx ry h;obtain ⟨α,_,k,a,b,hd,ha,hb,q⟩:=h;exact k.ne (A:=X.A) I rx ry ha hb (by lia) _ _ _ _ ⟨.bl (!decide (a=b)),H,I,rfl,q⟩
theorem Ip {A:Around} {k:Nat} (hr:nY k A):A.units+50 < cLine:=by have:=hr.units;lia
def Inner (H:Hp) (p q:Addr):Prop:=∃a b c:Int,H p=some (.lst [.int a,.int b,.int c,.ref q])
def cV (p:Addr) (H H':Hp):Prop:=(∀b o,H b=some o->b≠p->H' b=some o)/\∀q,Inner H p q->Inner H' p q
theorem cV.refl {p:Addr} (H:Hp):cV p H H:=⟨λ_ _ h _=>h,λ_ h=>h⟩
theorem cV.trans {p:Addr} {H H1 H2:Hp} (a:cV p H H1) (b:cV p H1 H2):cV p H H2:=⟨λc o h n=>b.1 c o (a.1 c o h n) n,λq h=>b.2 q (a.2 q h)⟩
theorem Inner.inj {H:Hp} {p q q':Addr} (h:Inner H p q) (h':Inner H p q'):q=q':=by
 obtain ⟨a,b,c,e⟩:=h;obtain ⟨a',b',c',e'⟩:=h';rw[e] at e';have:=HO.lst.inj (ck e');simp at this;exact this.2.2.2
theorem cV.set {p q:Addr} {H:Hp} {a b c a' b' c':Int} (h:H p=some (.lst [.int a,.int b,.int c,.ref q])):cV p H (upd H p (.lst [.int a',.int b',.int c',.ref q])) :=
 ⟨λb u h n=>by rw[bH n];exact h,λq' h'=>by
  rw[(Inner.inj ⟨a,b,c,h⟩ h').symm];exact ⟨a',b',c',aK⟩⟩
theorem aE.upto {p:Addr} {H H':Hp} (h:aE H H'):cV p H H':=⟨λb o e _=>h b o e,λq ⟨a,b,c,e⟩=>⟨a,b,c,h _ _ e⟩⟩
theorem aE.new {H:Hp} {p:Addr} {o:HO} (h:H p=Option.none):aE H (upd H p o):=λb u e=>by rw[bH (fJ e h)];exact e
theorem aE.sqt {K:FG9} {H H':Hp} {a:Addr} {xs:List V} (e:aE H H') (h:lA K H a xs):lA K H' a xs:=by
 rcases h with (h | ⟨o,h⟩) | h
 ·exact .inl (.inl (e _ _ h))
 ·exact .inl (.inr ⟨o,e _ _ h⟩)
 ·exact .inr h
theorem aE.num {K:FG9} {H H':Hp} {x:V} {n:Int×Int} (e:aE H H') (h:zj K H x n):zj K H' x n:=by obtain ⟨p,q,r⟩:=h;exact ⟨p,q,e.sqt r⟩
section
variable {σ:St} {H:Hp} {D:Ends}
theorem aS {t:TS} {σ0 σ:St} {D:Ends} {H:Hp} (e:σ0=σ) (h:t D σ H):t D σ0 H:=by rw[e];exact h
theorem PC {t u:TS} (h:t { D with nx:=u D } σ H):Q7 t u D σ H:=h
theorem NF (h:D.nx σ H):OJ D σ H:=h
theorem P0 {te:TE} {g:TG} (h:te σ H λx H1=>g x σ H1 D.nx):Nh te g D σ H:=h
theorem Ly {i:Nat} {v:V} {Q:St->Hp->Prop} (h:Q (σ.set i (some v)) H):Jt i v σ H Q:=h
theorem PD {te:TE} (h:te σ H D.rt):Q8 te D σ H:=h
theorem PR {c:TT} {t u:TS} (h:c σ H λb H1=>if b=true then t D σ H1 else u D σ H1):Ri c t u D σ H:=h
theorem NP {te:TE} (h:te σ H λ_ H1=>D.nx σ H1):OM te D σ H:=h
theorem PH {i j:Nat} {ta:TA} (h:ta σ H λvs H1=>∃v w,vs=[v,w]/\D.nx ((σ.set i (some v)).set j (some w)) H1):Q9 i j ta D σ H:=h
theorem NT {to ti te:TE} {tget:V->V->Hp->VK->Prop} {tip:Sd} {tset:IC}
  (h:to σ H λo H1=>ti σ H1 λi H2=>tget o i H2 λx H3=>te σ H3 λy H4=>tip x y H4 λz H5=>tset o i z H5 λH6=>D.nx σ H6):ON to ti te tget tip tset D σ H:=h
theorem PN {f:Int->Int->Int} {i j:Int} {Q:VK} (h:Q (.int (f i j)) H):ipI f (.int i) (.int j) H Q:=⟨i,j,rfl,rfl,h⟩
theorem PV {wi:TI} {g:TG} {tb:TS} (h:wi σ H λJ H1=>∃W:Nat->Nat->St->Hp->Prop,(∃m,W 0 m σ H1)/\∀i m σ H,W i m σ H →
  (J.stop i H/\D.nx σ H)\/(J.go i H/\∃N:St->Hp->Prop,(∀σ' H',N σ' H'->∃m',m' < m/\W (i+1) m' σ' H')/\∀x H',J.yld i H x H'->g x σ H' λσ2 H2=>tb { D with nx:=N,ct:=N,bk:=D.nx } σ2 H2)):Rj wi g tb D σ H:=h
variable {Q:VK} {QA:List V->Hp->Prop} {QB:Bool->Hp->Prop}
theorem Py {i:Nat} {v:V} (e:σ[i]?=some (some v)) (h:Q v H):Pg i σ H Q:=⟨v,e,h⟩
theorem SS {v:V} (h:Q v H):tC v σ H Q:=h
theorem RH {r:R2} {ta tb:TE} (h:ta σ H λx H1=>tb σ H1 λy H2=>r x y H2 Q):Rb r ta tb σ H Q:=h
theorem RB {r:V->Hp->VK->Prop} {ta:TE} (h:ta σ H λx H1=>r x H1 Q):Su r ta σ H Q:=h
theorem RK {g:Int->Int->V} {i j:Int} (h:Q (g i j) H):NW g (.int i) (.int j) H Q:=⟨i,j,rfl,rfl,h⟩
theorem gL {C:Int->Int->Prop} {g:Int->Int->V} {i j:Int} (hc:C i j) (h:Q (g i j) H):rI C g (.int i) (.int j) H Q:=⟨i,j,rfl,rfl,hc,h⟩
theorem SU {g:Int->V} {i:Int} (h:Q (g i) H):rU g (.int i) H Q:=⟨i,rfl,h⟩
theorem PZ {i j:Int} (h:Q (.bl (decide (i=j))) H):SX (.int i) (.int j) H Q:=⟨rfl,by
 have e:decide (V.int i=V.int j)=decide (i=j):=by simp
 rw[e];exact h⟩
theorem PL {i j:Int} (h:Q (.bl (!decide (i=j))) H):rNe (.int i) (.int j) H Q:=⟨rfl,by
 have e:decide (V.int i=V.int j)=decide (i=j):=by simp
 rw[e];exact h⟩
theorem PY {i j:Str} (h:Q (.bl (decide (i=j))) H):SX (.str i) (.str j) H Q:=⟨rfl,by
 have e:decide (V.str i=V.str j)=decide (i=j):=by simp
 rw[e];exact h⟩
theorem NA {t:TE} (h:t σ H λx H'=>∃k,x=.bl k/\QB k H'):K6 t σ H QB:=h
theorem RC {t:TE} (h:t σ H λx H'=>∃k,x=.bl k/\QB k H'):tB t σ H QB:=h
theorem P6 {t u:TT} (h:t σ H λc H1=>if c=true then u σ H1 QB else QB false H1):Rk t u σ H QB:=h
theorem RE {t u:TT} (h:t σ H λc H1=>if c=true then QB true H1 else u σ H1 QB):tOr t u σ H QB:=h
theorem PJ {t:TT} (h:t σ H λc H1=>QB (!c) H1):Rf t σ H QB:=h
theorem NU {t u:TE} (h:t σ H λx H1=>∃c,x=.bl c/\if c=true then u σ H1 Q else Q (.bl false) H1):OO t u σ H Q:=h
theorem ND {t:TE} (h:t σ H λx H1=>∃c,x=.bl c/\Q (.bl (!c)) H1):OI t σ H Q:=h
theorem PU {c:TT} {ta tb:TE} (h:c σ H λb H1=>if b=true then ta σ H1 Q else tb σ H1 Q):tIf c ta tb σ H Q:=h
theorem Px (h:QB true H):Q4 σ H QB:=h
theorem PK (h:QA [] H):JS σ H QA:=h
theorem NQ {ta:TE} {tr:TA} (h:ta σ H λx H1=>tr σ H1 λxs H2=>QA (x :: xs) H2):uU ta tr σ H QA:=h
theorem NS {sp:Sp} {E:XK} {t:TA} (h:t σ H λvs H1=>sp vs H1 Q E):K8 sp [] E t σ H Q:=by
 have e:(λvs H1=>sp (vs++[]) H1 Q E)=λvs H1=>sp vs H1 Q E:=by funext vs H1;rw[oY]
 show t σ H λvs H1=>sp (vs++[]) H1 Q E
 rw[e];exact h
theorem RI {r:List V->Hp->VK->Prop} {t:TA} (h:t σ H λvs H1=>r vs H1 Q):SQ r t σ H Q:=h
theorem HQ {K:FG9} {p:Addr} {xs:List V} {i:Int} {v:V} (hx:lA K H p xs) (e:IA xs i=some v) (h:Q v H):P8 K (.ref p) (.int i) H Q:=⟨p,xs,i,v,rfl,rfl,hx,e,h⟩
theorem cJ {K:FG9} {p:Addr} {xs:List V} {i:Int} (hx:bS K H p xs) {v:V} (e:IA xs i=some v) (h:Q v H):P9 K (.ref p) (.int i) H Q:=⟨p,xs,i,v,rfl,rfl,hx,e,h⟩
theorem NO {K:FG9} {p:Addr} {xs:List V} {i:Int} (hx:bS K H p xs) {v:V} (e:IA xs i=some v) (h:Q v H):OS K (.ref p) (.int i) H Q:=⟨p,xs,i,v,rfl,rfl,hx,e,h⟩
theorem fu {QH:Hp->Prop} {p:Addr} {xs:List V} {i:Int} {v:V} {j:Nat} {ys:List V} (hx:H p=some (.lst xs)) (e:KO xs.length i=some j) (ey:xs.set j v=ys) (h:QH (upd H p (.lst ys))):OR (.ref p) (.int i) v H QH:=⟨p,xs,i,j,rfl,rfl,hx,e,by rw[ey];exact h⟩
theorem NL {to ti:TE} {t:IC} {v:V} {QS:St->Hp->Prop} (h:to σ H λo H1=>ti σ H1 λi H2=>t o i v H2 λH3=>QS σ H3):RZ to ti t v σ H QS:=h
theorem Lz {t:TG} {u:MV} {v:V} {r:List V} {QS:St->Hp->Prop} (h:t v σ H λσ' H'=>u r σ' H' QS):O1 t u (v :: r) σ H QS:=⟨v,r,rfl,h⟩
theorem NM {QS:St->Hp->Prop} (h:QS σ H):R8 [] σ H QS:=⟨rfl,h⟩
theorem NK {K:FG9} {n:Nat} {t:MV} {a:Addr} {xs:List V} {QS:St->Hp->Prop} (hx:lA K H a xs) (hl:xs.length=n) (h:t xs σ H QS):Qv K n t (.ref a) σ H QS:=⟨a,xs,rfl,hx,hl,h⟩
theorem RD {r:V->Option Int->Option Int->Hp->VK->Prop} {te:TE} {tl th:TO} (h:te σ H λx H1=>tl σ H1 λl H2=>th σ H2 λu H3=>r x l u H3 Q):tSl r te tl th σ H Q:=h
theorem J8 {QO:Option Int->Hp->Prop} (h:QO none H):IQ σ H QO:=h
theorem NC {t:TE} {QO:Option Int->Hp->Prop} (h:t σ H λx H1=>∃i,x=.int i/\QO (some i) H1):OH t σ H QO:=h
variable {R:It->Hp->Prop} {K:FG9}
theorem Lv {tl:TE} (h:tl σ H λx H1=>∃a,x=.ref a/\(∃xs,bS K H1 a xs)/\R (MW K a) H1):Md K tl σ H R:=h
theorem NJ {tl:TE} (h:tl σ H λx H1=>∃a,x=.ref a/\(∃xs,lA K H1 a xs)/\R (OE K a) H1):RY K tl σ H R:=h
theorem Lu {ta:TA} (h:ta σ H λvs H1=>∃j:Int,vs=[.int j]/\-(2^62)<=j/\j < 2^62/\R (Hw 0 j.toNat) H1):OY ta σ H R:=h
theorem Ls {ta:TA} (h:ta σ H λvs H1=>∃i j:Int,vs=[.int i,.int j]/\(-(2^62)<=i/\i < 2^62/\-(2^62)<=j/\j < 2^62)/\R (Hw i (j - i).toNat) H1):OX ta σ H R:=h
theorem NR {wi:TI} {k:Nat} {cap:List Nat} {g:TG} {tf:TT} {te:TE} {σ₀:St} (e:KN k cap σ=σ₀) (h:wi σ H λJ H1=>uJ J σ₀ g tf te Q H1):FC wi k cap g tf te σ H Q:=by
 unfold FC;rw[e];exact h
theorem Nz {g:TG} {tf:TT} {te:TE} {x:V} {NY:V->Hp->Prop} {NN:Hp->Prop} (h:g x σ H λσ2 H2=>tf σ2 H2 λb H3=>if b=true then te σ2 H3 NY else NN H3):uD σ g tf te x H NY NN:=h
theorem RJ {T:String} {r:V->List V->Hp->VK->Prop} {to:TE} {t:TA} (h:to σ H λx H1=>SN K T x H1/\t σ H1 λxs H2=>r x xs H2 Q):tBM K T r to t σ H Q:=h
def Sh (Q:VK) (xs:List V) (H:Hp):Prop:=xs.length<=sizeLine/\∀p,H p=none->Q (.ref p) (upd H p (.tup xs))
def Si (Q:VK) (xs:List V) (H:Hp):Prop:=xs.length<=sizeLine/\∀p,H p=none->Q (.ref p) (upd H p (.lst xs))
theorem Pz {t:TA} (h:t σ H (Sh Q)):Q5 t σ H Q:=h
theorem PM {t:TA} (h:t σ H (Si Q)):Rh t σ H Q:=h
theorem ks {n:Nat} (h:Nat.ble n 1000=true):n<=sizeLine:=bc (bF (Nat.le_of_ble_eq_true h))
theorem bZ {xs:List V} (h:∀p H',aE H H'->H' p=some (.tup xs)->Q (.ref p) H') (hl:Nat.ble xs.length 1000=true:=by rfl):Sh Q xs H :=
 ⟨ks hl,λp hp=>h p _ (aE.new hp) aK⟩
theorem cQ {xs:List V} (h:∀p H',aE H H'->H p=none->H' p=some (.lst xs)->Q (.ref p) H') (hl:Nat.ble xs.length 1000=true:=by rfl):Si Q xs H :=
 ⟨ks hl,λp hp=>h p _ (aE.new hp) hp aK⟩
theorem RW {A B:Prop} (h:B):if (!true)=true then A else B:=Ku h
theorem RX {A B:Prop} (h:A):if (!false)=true then A else B:=RV h
def WB (tb:TS) (D:Ends) (Pv:St->Hp->Prop) (μ:St->Hp->Nat) (n:Nat) (σ:St) (H:Hp):Prop:=∃N:St->Hp->Prop,(∀σ' H',N σ' H'->∃m',m' < n/\(m'=μ σ' H'/\Pv σ' H'))/\tb { D with nx:=N,ct:=N,bk:=D.nx } σ H
theorem OQ {tb:TS} {Pv:St->Hp->Prop} {μ:St->Hp->Nat} {n:Nat} (h:tb { D with nx:=λσ' H'=>Pv σ' H'/\μ σ' H' < n,ct:=λσ' H'=>Pv σ' H'/\μ σ' H' < n,bk:=D.nx } σ H):WB tb D Pv μ n σ H :=
 ⟨_,λσ' H' ⟨p,l⟩=>⟨_,l,rfl,p⟩,h⟩
theorem Eb {c:TT} {tb:TS} (Pv:St->Hp->Prop) (μ:St->Hp->Nat) (h0:Pv σ H) (hs:∀σ H,Pv σ H->c σ H λb H1=>if b=true then WB tb D Pv μ (μ σ H) σ H1 else D.nx σ H1):K5 c tb D σ H:=by
 refine ⟨λm σ H=>m=μ σ H/\Pv σ H,⟨_,rfl,h0⟩,?_⟩;rintro m σ H ⟨rfl,p⟩;exact hs σ H p
end
def iC (H:Hp) (p:Addr):Prop:=∃(q:Addr) (a b c:Int) (cs:List Int),H p=some (.lst [.int a,.int b,.int c,.ref q])/\H q=some (.lst (cs.map V.int))/\0<=a/\0<=c/\c<=(cs.length:Int)/\∀x∈cs,(0:Int)<=x
theorem KG {H:Hp} {p q:Addr} {a b c:Int} {cs:List Int} (hp:H p=some (.lst [.int a,.int b,.int c,.ref q])) (hq:H q=some (.lst (cs.map V.int))):q≠p:=λe=>by
 rw[e,hp] at hq;have h:=HO.lst.inj (ck hq);cases cs with
 | nil=>cases h
 | cons x1 cs=>cases cs with
  | nil=>cases h
  | cons x2 cs=>cases cs with
   | nil=>cases h
   | cons x3 cs=>cases cs with
    | nil=>cases h
    | cons x4 cs=>simp at h
theorem iC.same {H H':Hp} {p:Addr} (h:iC H p) (e:aE H H'):iC H' p:=by obtain ⟨q,a,b,c,cs,h1,h2,r⟩:=h;exact ⟨q,a,b,c,cs,e _ _ h1,e _ _ h2,r⟩
theorem cV.tup {H H':Hp} {p r:Addr} {xs:List V} (u:cV p H H') (B:iC H p) (h:H r=some (.tup xs)):H' r=some (.tup xs):=by
 obtain ⟨q,a,b,c,cs,h1,_⟩:=B;exact u.1 r _ h λe=>by rw[e,h1] at h;cases h
theorem cV.other {H H':Hp} {p r:Addr} {o:HO} (u:cV p H H') (n:r≠p) (h:H r=some o):H' r=some o:=u.1 r _ h n
theorem iC.inner {H:Hp} {p:Addr} (h:iC H p):∃q,Inner H p q/\∃xs,H q=some (.lst xs):=by obtain ⟨q,a,b,c,cs,h1,h2,_⟩:=h;exact ⟨q,⟨a,b,c,h1⟩,_,h2⟩
theorem iC.upd {H:Hp} {p q r:Addr} {o:HO} (h:iC H p) (hi:Inner H p q) (n1:r≠p) (n2:r≠q):iC (L2.upd H r o) p:=by
 obtain ⟨q',a,b,c,cs,h1,h2,z⟩:=h;have e:q'=q:=Inner.inj ⟨a,b,c,h1⟩ hi;subst e;exact ⟨q',a,b,c,cs,by rw[bH n1.symm];exact h1,by rw[bH n2.symm];exact h2,z⟩
theorem Inner.upd {H:Hp} {p q r:Addr} {o:HO} (hi:Inner H p q) (n1:r≠p):Inner (L2.upd H r o) p q:=by obtain ⟨a,b,c,h⟩:=hi;exact ⟨a,b,c,by rw[bH n1.symm];exact h⟩
def Nj:Sp:=λvs H Q _=>∃p n,vs=[.ref p,.int n]/\iC H p/\0 < n/\n < 2^64/\∀v H',0<=v->v < n->iC H' p->cV p H H'->Q (.int v) H'
inductive Lh (K:FG9) (vs:List V) (H:Hp) (Q:VK) (E9:XK):Prop
 | mk (a:Addr) (ns:List Int):vs=[.ref a]->bS K H a (ns.map V.int)->ns.length<=63->(∀p H',H p=none->iC H' p->aE H H'->Q (.ref p) H')->Lh K vs H Q E9
inductive Bv (K:FG9) (vs:List V) (H:Hp) (Q:VK) (E9:XK):Prop
 | mk (a:Addr) (ns:List Int):vs=[.ref a]->bS K H a (ns.map V.int)->ns.length<=63->(∀H',Q (.bl true) H')->Bv K vs H Q E9
def Po:Sp:=λvs H Q _=>∃t b,vs=[.int t,.int b]/\0 < b/\Sz 8999 b/\∀r H',aE H H'->H' r=some (.tup [.int (lo t b),.int (hi t b)])->Q (.ref r) H'
def Rm:Sp:=λvs H Q _=>∃a b,vs=[.int a,.int b]/\Q (.int (g a b)) H
def JW:Sp:=λvs H Q _=>∃t b,vs=[.int t,.int b]/\b≠0/\Sz 8999 b/\∀r H',aE H H'->H' r=some (.tup [.int (lo (if b < 0 then -t else t) (if b < 0 then -b else b)),.int (hi (if b < 0 then -t else t) (if b < 0 then -b else b))])->Q (.ref r) H'
def O2 (a b c d:Int):Int:=a*d+c*b
def Ms (a b c d:Int):Int:=a*d - c*b
def Mr (a _b c _d:Int):Int:=a*c
def Jb (K:FG9) (f:Int->Int->Int->Int->Int):Sp:=λvs H Q _=>∃p q a b c d,vs=[.ref p,.ref q]/\lA K H p [.int a,.int b]/\lA K H q [.int c,.int d]/\0 < b/\0 < d/\Sz 4000 a/\Sz 4000 b/\Sz 4000 c/\Sz 4000 d /\
 ∀r H',aE H H'->H' r=some (.tup [.int (lo (f a b c d) (b*d)),.int (hi (f a b c d) (b*d))])->Q (.ref r) H'
theorem bW {α β:Type} {F:α->β->Prop}:∀{l1 l1':List α} {l2 l2':List β},Paired F l1 l2->Paired F l1' l2'->Paired F (l1++l1') (l2++l2')
 | _,_,_,_,.nil,h=>h
 | _,_,_,_,.cons r t,h=>.cons r (bW t h)
theorem dw {h:Heap} {a b:Addr} {o u:Obj} (ha:h.get? a=some o) (hb:h.get? b=some u) (hc:o.cls≠u.cls):a≠b:=λe=>by
 subst e;rw[ha] at hb;cases hb;exact hc rfl
theorem pC {a b:String} (h:a≠b):Value.type a≠Value.type b:=λe=>h (by injection e)
theorem Dg {h:Heap} {z TI TO i1 i2 l1 l2:Addr} {f0 a b:Value} {k1 k2:Nat} {xs ys:Array Value} (hz:IsZip h z TI TO f0) (hTI:IsPair h TI (.ref i1) (.ref i2)) (hTO:IsPair h TO a b)
  (h1:h.IsListIter i1 l1 k1) (h2:h.IsListIter i2 l2 k2) (hl1:h.IsList l1 xs) (hl2:h.IsList l2 ys) (hT:TI≠TO) (hi:i1≠i2):ZipApart z TI TO i1 i2 l1 l2:=by
 obtain ⟨o1,g1,c1,_⟩:=h1;obtain ⟨o2,g2,c2,_⟩:=h2;obtain ⟨p1,q1,d1,_⟩:=hl1;obtain ⟨p2,q2,d2,_⟩:=hl2;refine ⟨dw hTI hz ?_,dw hTO hz ?_,dw g1 hz ?_,dw g2 hz ?_,hT,dw hTI g1 ?_,dw hTI g2 ?_,dw hTO g1 ?_,dw hTO g2 ?_,hi,dw q1 hz ?_,dw q1 hTO ?_,dw q1 g1 ?_,dw q1 g2 ?_,dw q2 hz ?_,dw q2 hTO ?_,dw q2 g1 ?_,dw q2 g2 ?_⟩
 all_goals first
  | (rw[d1];first | (rw[c1];exact pC (by decide)) | (rw[c2];exact pC (by decide)) | exact pC (by decide))
  | (rw[d2];first | (rw[c1];exact pC (by decide)) | (rw[c2];exact pC (by decide)) | exact pC (by decide))
  | (rw[c1];exact pC (by decide))
  | (rw[c2];exact pC (by decide))
  | exact pC (by decide)
def QJ (K : FG9) (l1 l2 : Addr) : It :=
  ⟨λi H => ∃ xs ys x y, bS K H l1 xs /\ bS K H l2 ys /\ xs[i]? = some x /\ ys[i]? = some y,
   λi H v H' => ∃ p x y, v = .ref p /\ H p = none /\ H' = upd H p (.tup [x, y]) /\ (∀ xs, bS K H l1 xs → xs[i]? = some x) /\ ∀ ys, bS K H l2 ys → ys[i]? = some y,
   λi H => ∃ xs ys, bS K H l1 xs /\ bS K H l2 ys /\ (xs.length ≤ i \/ ys.length ≤ i)⟩
def tnZ (z TI TO i1 i2 l1 l2:Addr) (i:Nat) (h:Heap):Prop:=IsZip h z TI TO .none/\IsPair h TI (.ref i1) (.ref i2)/\(∃a b,IsPair h TO a b)/\h.IsListIter i1 l1 i/\h.IsListIter i2 l2 i
theorem K4 {P:Program} {w:World} {K:FG9} {elts:List Expr} {kk:Nat} {tpos:Pos} (z TI TO i1 i2 l1 l2:Addr) (hT:TI≠TO) (hi:i1≠i2):Turn P w K (.Tuple elts kk tpos) (QJ K l1 l2) [z,TI,TO,i1,i2] z (tnZ z TI TO i1 i2 l1 l2) where
 mem:=by simp
 obj:=λi h st b hb=>by
  obtain ⟨hz,hTI,⟨a,c,hTO⟩,⟨o1,g1,c1,d1⟩,⟨o2,g2,c2,d2⟩⟩:=st;simp only[aD,aO,or_false] at hb;rcases hb with rfl | rfl | rfl | rfl | rfl
  ·exact ⟨_,hz,λv q=>nomatch q⟩
  ·exact ⟨_,hTI,λv q=>nomatch q⟩
  ·exact ⟨_,hTO,λv q=>nomatch q⟩
  ·exact ⟨o1,g1,λv q=>by rw[d1] at q;cases q⟩
  ·exact ⟨o2,g2,λv q=>by rw[d2] at q;cases q⟩
 keep:=λi h h' st k=>by
  obtain ⟨hz,hTI,⟨a,c,hTO⟩,h1,h2⟩:=st;exact ⟨k z (by simp) _ hz,k TI (by simp) _ hTI,⟨a,c,k TO (by simp) _ hTO⟩,h1.at λo e=>k i1 (by simp) o e,h2.at λo e=>k i2 (by simp) o e⟩
 item:=by
  intro X hP hw hK hc i pins s σ H E I hf st hg;subst hP hw hK;obtain ⟨hz,hTI,⟨a,c,hTO⟩,h1,h2⟩:=st;obtain ⟨xs,ys,x,y,qx,qy,ex,ey⟩:=hg;obtain ⟨us,rx,px,_⟩:=I.list qx;obtain ⟨ws,ry,py,_⟩:=I.list qy;obtain ⟨u,eu,ru⟩:=rx.get ex;obtain ⟨v,ev,rv⟩:=ry.get ey;have D:=Dg hz hTI hTO h1 h2 px.isList py.isList hT hi;refine wpAny_pyNext_zip_item D hz hTI hTO h1 h2 px.isList py.isList (x:=u) (y:=v) (by simpa using eu) (by simpa using ev) λh' a1 a2 a3 a4 a5 a6 hk=>?_
  refine ⟨_,rfl,wpAny_letOwnedTupleGo_zip a1 λh'' hz'' hs=>?_⟩;have hT0:H s.heap.objs.size=none:=I.hok.fresh (ak _);have zne:s.heap.objs.size≠z:=JM (Heap.lt_size hz)
  have up:∀b o,b∉[z,TO,i1,i2]->s.heap.get? b=some o->h''.get? b=some o:=λb o hb e=>by
   simp only[aD,aO,or_false,not_or] at hb;exact (hs.2 b hb.1).trans (hk b o hb.1 hb.2.1 hb.2.2.1 hb.2.2.2 e)
  have fx:∀b∈[z,TO,i1,i2],lZ X pins H b:=λb hb=>hf b (by
   simp only[aD,aO,or_false] at hb ⊢;rcases hb with rfl | rfl | rfl | rfl <;> simp)
  have nx:∀b o,H b=some o->b∉[z,TO,i1,i2]:=λb o e hb=>by
   have:=(fx b hb).1;rw[this] at e;cases e
  have nT:∀{b:Addr} {o:HO},H b=some o->b≠s.heap.objs.size:=λe q=>by rw[q,hT0] at e;cases e
  have tup:h''.get? s.heap.objs.size=some { cls:=.type "tuple",data:=.seq #[u,v] }:=(hs.2 _ zne).trans a5
  have I2:Inv X pins σ (upd H s.heap.objs.size (.tup [x,y])) { s with heap:=h'' }:=by
   refine I.step (g':=s.gens) (d':=s.drawn) (t':=s.toks) (ch:=[z,TO,i1,i2]) (λb hb=>?_) (λb o _ _ hb e _=>up b o hb e) (λb o _ _ hb e _=>⟨o.slots,up b o hb e⟩) (λb o hb e n=>?_)
    (λb o hb e=>⟨o,up b o hb e⟩) (λb q e=>by rw[bH (nT e)];exact e) (λb o q e=>by rw[bH (nT e)];exact e) (λb q e=>⟨#[],by rw[bH (nT e),e];simp⟩) (λm hm=>?_) (λb o e=>?_) I.bare
   ·obtain ⟨_,f1,_,f3,f4,f5⟩:=fx b hb;exact ⟨f3,f1,f4,f5⟩
   ·rw[bH (cb (Heap.lt_size e))];exact n
   ·obtain ⟨o,es,ep,ho,r⟩:=hm;exact ⟨o,es,ep,up _ o (λz=>(fx _ z).2.1 rfl) ho,r⟩
   ·by_cases hb:b=s.heap.objs.size
    ·subst hb;rw[aK] at e;cases e;exact ⟨ks rfl,[u,v],.cons ru (.cons rv .nil),⟨_,tup,rfl,_,rfl⟩⟩
    ·rw[bH hb] at e;refine (I.hok b o e).stay (λc v' hc q=>up c v' ?_ q) (λc q=>by rw[bH (nT q)];exact q) λc xs q=>by rw[bH (nT q)];exact q
     rcases hc with rfl | hc
     ·exact nx _ _ e
     ·exact nx _ _ hc
  refine ⟨.ref s.heap.objs.size,_,I2,rfl,⟨_,x,y,rfl,hT0,rfl,λxs' q=>by rw[I.list_inj q qx];exact ex,λys' q=>by rw[I.list_inj q qy];exact ey⟩,?_,λb hb=>?_⟩
  ·refine ⟨hz'',(hs.2 _ D.TIz).trans (hk _ _ D.TIz D.TITO D.TIi1 D.TIi2 hTI),⟨_,_,(hs.2 _ D.TOz).trans a2⟩,a3.at λo e=>(hs.2 _ D.i1z).trans e,a4.at λo e=>(hs.2 _ D.i2z).trans e⟩
  ·obtain ⟨o,e,_⟩:∃o,s.heap.get? b=some o/\True:=by
    obtain ⟨o1,g1,_⟩:=h1;obtain ⟨o2,g2,_⟩:=h2;simp only[aD,aO,or_false] at hb;rcases hb with rfl | rfl | rfl | rfl | rfl
    ·exact ⟨_,hz,trivial⟩
    ·exact ⟨_,hTI,trivial⟩
    ·exact ⟨_,hTO,trivial⟩
    ·exact ⟨_,g1,trivial⟩
    ·exact ⟨_,g2,trivial⟩
   rw[bH (cb (Heap.lt_size e))];exact (hf b hb).1
 done:=by
  intro X hP hw hK hc i pins s σ H E I hf st hg;subst hP hw hK;obtain ⟨hz,hTI,⟨a,c,hTO⟩,h1,h2⟩:=st;obtain ⟨xs,ys,qx,qy,hend⟩:=hg;obtain ⟨us,rx,px,_⟩:=I.list qx;obtain ⟨ws,ry,py,_⟩:=I.list qy;have lx:=rx.length;have ly:=ry.length;have D:=Dg hz hTI hTO h1 h2 px.isList py.isList hT hi
  refine wpAny_pyNext_zip_end (I.ok.hd hc) D hz hTI hTO h1 h2 px.isList py.isList (by
   rcases hend with q | q
   ·exact .inl (by simp;lia)
   ·exact .inr (by simp;lia)) λh' hk=>⟨rfl,?_⟩
  have up:∀b o,b∉[z,TO,i1,i2]->s.heap.get? b=some o->h'.get? b=some o:=λb o hb e=>by
   simp only[aD,aO,or_false,not_or] at hb;exact hk b o hb.1 hb.2.1 hb.2.2.1 hb.2.2.2 e
  have fx:∀b∈[z,TO,i1,i2],lZ X pins H b:=λb hb=>hf b (by
   simp only[aD,aO,or_false] at hb ⊢;rcases hb with rfl | rfl | rfl | rfl <;> simp)
  have nx:∀b o,H b=some o->b∉[z,TO,i1,i2]:=λb o e hb=>by
   have:=(fx b hb).1;rw[this] at e;cases e
  refine I.step (g':=s.gens) (d':=s.drawn) (t':=s.toks) (ch:=[z,TO,i1,i2]) (λb hb=>?_) (λb o _ _ hb e _=>up b o hb e) (λb o _ _ hb e _=>⟨o.slots,up b o hb e⟩) (λb o hb e n=>n)
   (λb o hb e=>⟨o,up b o hb e⟩) (λb q e=>e) (λb o q e=>e) (λb q e=>⟨#[],by rw[e];simp⟩) (λm hm=>?_) (λb o e=>?_) I.bare
  ·obtain ⟨_,f1,_,f3,f4,f5⟩:=fx b hb;exact ⟨f3,f1,f4,f5⟩
  ·obtain ⟨o,es,ep,ho,r⟩:=hm;exact ⟨o,es,ep,up _ o (λz=>(fx _ z).2.1 rfl) ho,r⟩
  ·refine (I.hok b o e).stay (λc v' hc q=>up c v' ?_ q) (λc q=>q) λc xs q=>q
   rcases hc with rfl | hc
   ·exact nx _ _ e
   ·exact nx _ _ hc
 self:=λ_ _ _ _ _ st h=>wpAny_pyIter_zip st.1 h
section
variable {X:Cx}
def Qs (K:FG9) (ta:TA):TI:=λσ H R=>ta σ H λvs H1=>∃l1 l2,vs=[.ref l1,.ref l2]/\(∃xs,bS K H1 l1 xs)/\(∃ys,bS K H1 l2 ys)/\R (QJ K l1 l2) H1
theorem wd {a b:Expr} {ta:TA} {p pos tpos:Pos} {elts:List Expr} {kk:Nat} (hg:Gl X "zip") (hm:X.mg "zip"=none) (ha:PA X [a,b] ta) (hs:starEach [a,b] X.env=[(false,eval a X.env),(false,eval b X.env)]:=by rfl) (hs2:starEach [b] X.env=[(false,eval b X.env)]:=by rfl) :
  PI X (.Tuple elts kk tpos) (.Call (.Name "zip" p) [a,b] [] pos) (Qs X.K ta):=by
 intro pins s σ H R I h;refine Call_ (lV I hg hm boot_zip (PyProof.Rows.callWith_type1 (fR (ha pos pins s σ H _ I h) λus s1 ⟨vs,H1,I1,r1,q1⟩=>?_) (by rw[hs,hs2]) (by rw[hs2];rfl)));obtain ⟨l1,l2,e,⟨xs,qx⟩,⟨ys,qy⟩,q⟩:=q1;subst e;obtain ⟨u,v,rfl,ru,rv⟩:=vals2 r1;cases ru;cases rv;obtain ⟨us,rx,px,_⟩:=I1.list qx;obtain ⟨ws,ry,py,_⟩:=I1.list qy;refine call_zip_2 px.isList py.isList λh' a1 a2 a3 a4 a5 a6 hk=>wpAny_pyIter_zip a1 ?_
 have I2:Inv X pins σ H1 { s1 with heap:=h' }:=I1.kept (t':=s1.toks) hk;refine ⟨_,[s1.heap.objs.size+4,s1.heap.objs.size+2,s1.heap.objs.size+3,s1.heap.objs.size,s1.heap.objs.size+1],_,_,H1,rfl,I2,K4 (s1.heap.objs.size+4) (s1.heap.objs.size+2) (s1.heap.objs.size+3) s1.heap.objs.size (s1.heap.objs.size+1) l1 l2 (cb (jt _)) (cb (jt _)),⟨a1,a2,⟨_,_,a3⟩,a4,a5⟩,λb hb=>?_,q⟩
 have hb':s1.heap.objs.size<=b:=by
  simp only[aD,aO,or_false] at hb;rcases hb with rfl | rfl | rfl | rfl | rfl <;> first | exact AI _ _ | exact ak _
 exact I1.fpOk hb' (I1.hok.fresh hb')
theorem yS (hc:X.calm=true):rz X (.builtin "all") (λxs H Q=>∃(p:Addr) (bs:List Bool),xs=[.ref p]/\bS X.K H p (bs.map V.bl)/\Q (.bl (bs.all id)) H):=by
 intro pins s σ H xs us Q I r h;obtain ⟨p,bs,rfl,hp,q⟩:=h;obtain ⟨u,rfl,ru⟩:=vals1 r;cases ru;obtain ⟨vs,rv,pl,hz⟩:=I.list hp
 have hb:PyProof.Rows.LSm.BoolsAre vs bs:=by
  clear q hp pl hz
  induction bs generalizing vs with
  | nil=>cases rv;exact .nil
  | cons b bs ih =>
   rw[iD] at rv;cases rv with
   | cons r1 r2=>cases r1;exact .cons b (ih _ r2)
 have hlt:p < s.heap.objs.size:=by obtain ⟨_,e,_⟩:=pl.isList;exact Heap.lt_size e
 refine call_all_walk (wpAny_pyIter_list pl.isList ?_)
 refine ⟨s.heap.objs.size,[s.heap.objs.size,p],[s.heap.objs.size],vs.toArray.size,_,_,λi=>(bs[i]?).getD true,rfl,Walks.list (A:=X.A.in1) (I.ok.hd hc) _ p (cb hlt) vs.toArray,
  ⟨⟨_,Heap.get?_push_size _ rfl,rfl,rfl⟩,pl.isList.push _⟩,λi v s' Q' E' hP hQ=>?_,λh' tk hk=>?_⟩
 ·obtain ⟨b,e,rfl⟩:=hb.get i v (by simpa using hP);simp only[e,Option.getD_some] at hQ;exact wpAny_truthy_bool hQ
 ·have e:((List.range vs.toArray.size).all λi=>(bs[i]?).getD true)=bs.all id:=by
   rw[aL,hb.length];exact PyProof.Rows.LSm.range_all bs
  rw[e];exact ⟨.bl _,H,I.kept (t':=tk) (PyProof.Rows.LSm.kept_iter hk),rfl,q⟩
theorem MH (hc:X.calm=true):rz X (.builtin "sum") (λxs H Q=>∃(p:Addr) (ns:List Int),xs=[.ref p]/\bS X.K H p (ns.map V.int)/\Q (.int ns.sum) H):=by
 intro pins s σ H xs us Q I r h;obtain ⟨p,ns,rfl,hp,q⟩:=h;obtain ⟨u,rfl,ru⟩:=vals1 r;cases ru;obtain ⟨vs,rv,pl,_⟩:=I.list hp;have hi:IntsAre vs ns:=intsAre_of rv;obtain ⟨xs,hx⟩:=hi.allInts.items;have hl':s.heap.IsList p (intItems xs):=hx ▸ pl.isList;refine sum_intListG (I.ok.hd hc) hl' λh' tk t' hk=>?_
 have e1:ns=xs.toList.map (·.1):=by
  rw[<- nums_intItems,<- hx];exact (show numsOf vs.toArray.toList=ns from hi.numsOf).symm
 have e2:preSum (numAt xs) xs.size=ns.sum:=by
  rw[preSum_eq,aG (by simp),e1]
 rw[e2];exact ⟨.int _,H,I.kept (t':=tk) hk,⟨_,rfl⟩,q⟩
end
section
variable {K:FG9} {l1 l2:Addr} {xs ws:List V} {g:TG} {tf:TT} {te:TE} {Q:VK} {σ₀:St} {H:Hp}
theorem vG (Pv:Nat->List V->Hp->Prop) (hz:xs.length<=sizeLine) (hw:ws.length=xs.length) (h0:Pv 0 [] H) (hl:∀i ys H,i<=xs.length->Pv i ys H->bS K H l1 xs/\bS K H l2 ws)
  (hs:∀i x y ys H p,xs[i]?=some x->ws[i]?=some y->ys.length<=i->Pv i ys H->H p=none->uD σ₀ g tf te (.ref p) (upd H p (.tup [x,y])) (λy H'=>Pv (i+1) (ys++[y]) H') (λH'=>Pv (i+1) ys H'))
  (hd:∀ys H,ys.length<=xs.length->Pv xs.length ys H->∀p,H p=none->Q (.ref p) (upd H p (.lst ys))):uJ (QJ K l1 l2) σ₀ g tf te Q H:=by
 refine ⟨λi m ys H=>m=xs.length - i/\i<=xs.length/\ys.length<=i/\Pv i ys H,⟨xs.length,by simp,bx _,bx _,h0⟩,?_⟩;rintro i m ys H ⟨rfl,hi,hy,p⟩;obtain ⟨q1,q2⟩:=hl i ys H hi p;by_cases hlt:i < xs.length
 ·refine .inr ⟨⟨xs,ws,xs[i],ws[i]'(by lia),q1,q2,by simp [hlt],by simp⟩,by lia,λy H'=>Pv (i+1) (ys++[y]) H',λH'=>Pv (i+1) ys H',λy H' p'=>⟨xs.length - (i+1),by lia,rfl,hlt,by rw[av,bB];lia,p'⟩,λH' p'=>⟨xs.length - (i+1),by lia,rfl,hlt,by lia,p'⟩,λx H' y=>?_⟩;obtain ⟨r,x',y',rfl,hr,rfl,e1,e2⟩:=y;exact hs i x' y' ys _ r (e1 xs q1) (e2 ws q2) hy p hr
 ·have e:i=xs.length:=by lia
  subst e;exact .inl ⟨⟨xs,ws,q1,q2,.inl (ak _)⟩,by lia,hd ys H hy p⟩
theorem Oj {tb:TS} {D:Ends} {σ:St} (Pv:Nat->St->Hp->Prop) (hw:ws.length=xs.length) (h0:Pv 0 σ H) (hl:∀i σ H,i<=xs.length->Pv i σ H->bS K H l1 xs/\bS K H l2 ws)
  (hs:∀i x y σ H p,xs[i]?=some x->ws[i]?=some y->Pv i σ H->H p=none->g (.ref p) σ (upd H p (.tup [x,y])) λσ2 H2=>tb { D with nx:=Pv (i+1),ct:=Pv (i+1),bk:=D.nx } σ2 H2) (hd:∀σ H,Pv xs.length σ H->D.nx σ H) :
  ∃W:Nat->Nat->St->Hp->Prop,(∃m,W 0 m σ H)/\∀i m σ H,W i m σ H →
   ((QJ K l1 l2).stop i H/\D.nx σ H)\/((QJ K l1 l2).go i H/\∃N:St->Hp->Prop,(∀σ' H',N σ' H'->∃m',m' < m/\W (i+1) m' σ' H')/\∀x H',(QJ K l1 l2).yld i H x H'->g x σ H' λσ2 H2=>tb { D with nx:=N,ct:=N,bk:=D.nx } σ2 H2):=by
 refine ⟨λi m σ H=>m=xs.length - i/\i<=xs.length/\Pv i σ H,⟨xs.length,by simp,bx _,h0⟩,?_⟩;rintro i m σ H ⟨rfl,hi,p⟩;obtain ⟨q1,q2⟩:=hl i σ H hi p;by_cases hlt:i < xs.length
 ·refine .inr ⟨⟨xs,ws,xs[i],ws[i]'(by lia),q1,q2,by simp [hlt],by simp⟩,Pv (i+1),λσ' H' p'=>⟨xs.length - (i+1),by lia,rfl,hlt,p'⟩,λx H' y=>?_⟩;obtain ⟨r,x',y',rfl,hr,rfl,e1,e2⟩:=y;exact hs i x' y' σ _ r (e1 xs q1) (e2 ws q2) p hr
 ·have e:i=xs.length:=by lia
  subst e;exact .inl ⟨⟨xs,ws,q1,q2,.inl (ak _)⟩,hd σ H p⟩
end
section
variable {X:Cx}
theorem we (K:FG9) (n:Nat) {es:List Expr} {k:Nat} {pos:Pos} {t:MV} (h:Se X es t) (hK:X.K=K:=by rfl) (hc:X.calm=true:=by rfl)
  (hn:(assignEach es X.env).length=n:=by rfl) (hst:(assignEach es X.env).findIdx? (·.1)=none:=by rfl):PG X (.Tuple es k pos) (Qv K n t):=by subst hK;exact va hc h hn hst
theorem tz (K:FG9) (hK:X.K=K):Sj X (P8 K):=by subst hK;exact bY
theorem nG (K:FG9) (hK:X.K=K):Sj X (P9 K):=by subst hK;exact bV
theorem Gk (K:FG9) {tg l:Expr} {tl:TE} (hl:PE X l tl) (hK:X.K=K:=by rfl):PI X tg l (Md K tl):=by subst hK;exact cR hl
theorem Lj (K:FG9) (hK:X.K=K):S9 X (P7 K):=by subst hK;exact El
end
theorem eQ {X:Cx} {e e':Expr} {es:List Expr} {te:TE} {t:TA} (h:e=e') (ha:PE X e' te) (hr:PA X es t) (hs:∀l,starEach (e' :: l) X.env=(false,eval e' X.env) :: starEach l X.env:=by intro _;rfl):PA X (e :: es) (uU te t):=by subst h;exact aa ha hr (hs _)
section
variable {σ:St} {H:Hp} {D:Ends} {Q:VK}
theorem ja {l:Addr} {xs:List V} {y:V} (hl:H l=some (.lst xs)) (hz:xs.length < sizeLine) (h:Q .non (upd H l (.lst (xs++[y])))):Jd (.ref l) [y] H Q:=⟨l,xs,y,rfl,rfl,hl,hz,h⟩
theorem NI {K:FG9} {ta:TA} {R:It->Hp->Prop} (h:ta σ H λvs H1=>∃l1 l2,vs=[.ref l1,.ref l2]/\(∃xs,bS K H1 l1 xs)/\(∃ys,bS K H1 l2 ys)/\R (QJ K l1 l2) H1):Qs K ta σ H R:=h
theorem kB {l b:Addr} {xs zs:List V} (h1:H l=some (.lst xs)) (h2:H b=some (.lst zs)) (hz:xs.length+zs.length<=sizeLine) (h:∀p H',aE H H'->H p=none->H' p=some (.lst (xs++zs))->Q (.ref p) H'):RN (.ref l) (.ref b) H Q :=
 ⟨l,b,xs,zs,rfl,rfl,h1,h2,hz,λp hp=>h p _ (aE.new hp) hp aK⟩
theorem PB {K:FG9} {a:Addr} {xs:List V} {lo hi:Option Int} (h1:bS K H a xs) (h:∀p H',aE H H'->H p=none->H' p=some (.lst (xi xs lo hi))->Q (.ref p) H'):P7 K (.ref a) lo hi H Q :=
 ⟨a,xs,rfl,h1,λp hp=>h p _ (aE.new hp) hp aK⟩
theorem nK {α:Type} {xs:List α} {i:Int} (h0:0<=i) (h1:i < xs.length):∃v,IA xs i=some v/\v∈xs/\xs[i.toNat]?=some v:=by
 have hj:i.toNat < xs.length:=by lia
 refine ⟨xs[i.toNat],?_,aT hj,by simp [hj]⟩;have:=fF (xs:=xs) (j:=i.toNat) (v:=xs[i.toNat]) (by simp [hj]);rwa [Int.toNat_of_nonneg h0] at this
end
inductive Kn (H:Hp):V->Prop where
 | non:Kn H .non
 | bl (b:Bool):Kn H (.bl b)
 | int (i:Int):Kn H (.int i)
 | str (x:Str):Kn H (.str x)
 | lst {a:Addr} {xs:List V} (e:H a=some (.lst xs)):Kn H (.ref a)
 | tup {a:Addr} {xs:List V} (e:H a=some (.tup xs)):Kn H (.ref a)
 | dic {a:Addr} {kvs:List (Key×V)} (e:H a=some (.dK kvs)):Kn H (.ref a)
def tyB (T:String) (x:V) (H:Hp):Bool:=match x with
 | .int _=>T == "int"
 | .bl _=>T == "int" || T == "bool"
 | .ref a=>(match H a with
  | some (.lst _)=>T == "list"
  | some (.tup _)=>T == "tuple"
  | _=>false)
 | _=>false
def OkT (T:String):Prop:=T="int"\/T="bool"\/T="list"\/T="tuple"
theorem Ey {K:FG9} {H:Hp} {Q:VK} {x:V} {T:String} (h:Kn H x) (hT:OkT T) (q:Q (.bl (tyB T x H)) H):HR K T x H Q:=by
 cases h with
 | non=>rcases hT with rfl | rfl | rfl | rfl <;> exact ⟨_,_,.non,rfl,q⟩
 | bl b=>rcases hT with rfl | rfl | rfl | rfl <;> exact ⟨_,_,.bl b,rfl,q⟩
 | int i=>rcases hT with rfl | rfl | rfl | rfl <;> exact ⟨_,_,.int i,rfl,q⟩
 | str x=>rcases hT with rfl | rfl | rfl | rfl <;> exact ⟨_,_,.str x,rfl,q⟩
 | lst e =>
  simp only[tyB,e] at q;rcases hT with rfl | rfl | rfl | rfl <;> exact ⟨_,_,.lst e,rfl,q⟩
 | tup e =>
  simp only[tyB,e] at q;rcases hT with rfl | rfl | rfl | rfl <;> exact ⟨_,_,.tup e,rfl,q⟩
 | dic e =>
  simp only[tyB,e] at q;rcases hT with rfl | rfl | rfl | rfl <;> exact ⟨_,_,.dK e,rfl,q⟩
theorem cM {α β:Type} {F:α->β->Prop}:∀{l1:List α} {l2:List β} {y:β},Paired F l1 l2->y∈l2->∃x∈l1,F x y
 | _,_,_,.nil,h=>nomatch h
 | _,_,_,.cons r t,h=>by
  rcases aD.mp h with rfl | h
  ·exact ⟨_,dC,r⟩
  ·obtain ⟨x,hx,q⟩:=cM t h;exact ⟨x,b8 _ hx,q⟩
theorem cv {α β:Type} {F:α->β->Prop} {l1:List α} {l2:List β} {i:Nat} {y:β} (h:Paired F l1 l2) (e:l2[i]?=some y):∃x,l1[i]?=some x/\F x y:=by
 have hl:=h.length;have hi:i < l2.length:=(aB.mp e).1;refine ⟨l1[i]'(by lia),by simp,?_⟩;have:=lS h (i:=i) (by lia) hi;have e2:l2[i]=y:=(aB.mp e).2;rwa [e2] at this
def AA (n:Int×Int):Prop:=0 < n.2/\Int.gcd n.1 n.2=1/\Sz 8000 n.1/\Sz 8000 n.2
theorem take_snoc {α:Type} {l:List α} {i:Nat} {v:α} (h:l[i]?=some v):l.take (i+1)=l.take i++[v]:=by rw[List.take_add_one,h];rfl
theorem aE.after {H H':Hp} {r:Addr} {o:HO} (s:aE H H') (h:H r=Option.none):aE H (upd H' r o):=λb u e=>by rw[bH (fJ e h)];exact s b u e
theorem cV.after {H H':Hp} {b r:Addr} {o:HO} (s:cV b H H') (h:H r=Option.none):cV b H (upd H' r o):=⟨λc u e n=>by rw[bH (fJ e h)];exact s.1 c u e n,λq hi=>(s.2 q hi).upd λz=>by obtain ⟨_,_,_,e⟩:=hi;rw[<- z,h] at e;cases e⟩
theorem cV.same {H H' H'':Hp} {b:Addr} (s:cV b H H') (e:aE H' H''):cV b H H'':=s.trans e.upto
theorem Fe {α:Type} {Pr:α->Prop} {l:List α} {a:α} (h:∀n∈l,Pr n) (ha:Pr a):∀n∈l++[a],Pr n:=λn hn=>by
 rcases ay.mp hn with hn | hn
 ·exact h n hn
 ·have e:n=a:=by simpa using hn
  rw[e];exact ha
abbrev Cy (h:Heap) (z TI TO:Addr) (f0 f1:Value):Prop:=h.get? z=some { cls:=.type "zip",dict:=none,data:=.fields #[f0,f1,.bool false,.ref TI,.ref TO],slots:=#[] }
section
variable {prog:Program} {w:World} {A:Around} {E:Value->Shared->Prop} {s:Shared}
theorem IB {a:Addr} {o:Obj} {Q:Option Obj->Shared->Prop} (e:s.heap.get? a=some o) (h:Q (some o) s):wpAny (model prog w) A (loadIfAlive a) Q E s:=by
 intro Γ p hp;show Sem.wp _ _ (.loadIfAlive a .pure) _ _ _ _
 simp only[Sem.wp_loadIfAlive,e];exact wpAny_pure h Γ p hp
theorem BP {z TI TO T:Addr} {b1:Bool} {o:Obj} {Q:Bool->Shared->Prop} (zr:Cy s.heap z TI TO (rawInt T) (.bool b1)) (al:s.heap.get? T=some o)
  (h:∀h',Cy h' z TI TO (rawInt T) (.bool true)->Heap.SameBut z s.heap h'->Q false { s with heap:=h' }):wpAny (model prog w) A (Builtin.SmallTypes.ownedTupleIsFree (.ref z)) Q E s:=by
 unfold Builtin.SmallTypes.ownedTupleIsFree;refine wpAny_bind (wpAny_field zr rfl (x:=rawInt T) rfl ?_);refine wpAny_bind (IB (a:=T) al ?_);refine wpAny_bind (wpAny_field zr rfl (x:=.bool b1) rfl ?_);cases b1 with
 | true=>exact wpAny_pure (h _ zr (.refl ..))
 | false=>exact wpAny_bind (wpAny_setField_rec zr (by simp) λh' zr' sb=>wpAny_pure (h h' zr' sb))
theorem Kq {z TI TO T i1 i2 l1 l2:Addr} {k1 k2:Nat} {us ws:Array Value} {u v:Value} {b1:Bool} {o:Obj} {Q:Value->Shared->Prop} (D:ZipApart z TI TO i1 i2 l1 l2) (zr:Cy s.heap z TI TO (rawInt T) (.bool b1)) (al:s.heap.get? T=some o)
  (pt:IsPair s.heap TI (.ref i1) (.ref i2)) (j1:s.heap.IsListIter i1 l1 k1) (j2:s.heap.IsListIter i2 l2 k2) (m1:s.heap.IsList l1 us) (m2:s.heap.IsList l2 ws) (eu:us[k1]?=some u) (ev:ws[k2]?=some v)
  (hQ:∀h',Cy h' z TI TO (rawInt T) (.bool true)->h'.IsListIter i1 l1 (k1+1)->h'.IsListIter i2 l2 (k2+1)->IsPair h' s.heap.objs.size u v->(∀c o,c≠z->c≠i1->c≠i2->s.heap.get? c=some o->h'.get? c=some o)->Q (.ref s.heap.objs.size) { s with heap:=h' }) :
  wpAny (model prog w) A (Builtin.«zip.__next__» ⟨[.ref z],[]⟩) (λfin s'=>∃v,fin=.done (.ret v)/\Q v s') E s:=by
 change wpAny _ _ (field (Value.ref z) 2 >>= _) _ _ s
 refine wpAny_bind (wpAny_field zr rfl (x:=.bool false) rfl ?_)
 change wpAny _ _ (field (Value.ref z) 3 >>= _) _ _ s
 refine wpAny_bind (wpAny_field zr rfl (x:=.ref TI) rfl (wpAny_bind (wpAny_seqItems pt rfl ?_)))
 change wpAny _ _ (Builtin.SmallTypes.ownedTupleIsFree (Value.ref z) >>= _) _ _ s
 refine wpAny_bind (BP zr al λg1 zr1 sb1=>?_);simp only[jI,if_false];refine wpAny_bind ?_;rw[<- Array.forIn_toList];simp only[M7,D9];have j1':=j1.extBut sb1.extBut D.i1z;have m1':=m1.extBut sb1.extBut D.l1z;refine wpAny_bind (wpAny_bind (wpAny_holding ?_))
 change wpAny _ _ (Builtin.SmallTypes.nextOf (Value.ref i1) >>= _) _ _ _
 refine wpAny_bind (wpAny_nextOf_list_item j1' m1' eu λg2 j1a sb2=>wpAny_pure ?_);refine wpAny_pure ?_;have j2':=(j2.extBut sb1.extBut D.i2z).extBut sb2.extBut D.i12.symm;have m2':=(m2.extBut sb1.extBut D.l2z).extBut sb2.extBut D.l2i1;refine wpAny_bind (wpAny_bind (wpAny_holding ?_))
 change wpAny _ _ (Builtin.SmallTypes.nextOf (Value.ref i2) >>= _) _ _ _
 refine wpAny_bind (wpAny_nextOf_list_item j2' m2' ev λg3 j2a sb3=>wpAny_pure ?_);refine wpAny_pure (wpAny_pure ?_);refine wpAny_bind (wpAny_newTuple (hsz:=ks rfl) ?_);have sz:g3.objs.size=s.heap.objs.size:=by rw[sb3.1,sb2.1,sb1.1]
 have up:∀c o,c≠z->c≠i1->c≠i2->s.heap.get? c=some o->g3.get? c=some o:=λc o c1 c2 c3 e=>sb3.extBut _ _ c3 (sb2.extBut _ _ c2 (sb1.extBut _ _ c1 e))
 have zr3:Cy g3 z TI TO (rawInt T) (.bool true):=sb3.extBut _ _ D.i2z.symm (sb2.extBut _ _ D.i1z.symm zr1);refine wpAny_pure ⟨_,rfl,?_⟩
 change Q (.ref g3.objs.size) { s with heap:=g3.push { cls:=.type "tuple",data:=.seq #[u,v] } }
 have last:=hQ (g3.push { cls:=.type "tuple",data:=.seq #[u,v] }) (Heap.get?_push_of_some _ zr3) ((j1a.extBut sb3.extBut D.i12).at λo e=>Heap.get?_push_of_some _ e) (j2a.at λo e=>Heap.get?_push_of_some _ e)
  (by rw[<- sz];exact Heap.get?_push_size _ rfl) λc o c1 c2 c3 e=>Heap.get?_push_of_some _ (up c o c1 c2 c3 e)
 rw[sz];exact last
theorem LU {z TI TO T i1 i2 l1 l2:Addr} {k1:Nat} {us:Array Value} {b1:Bool} {o:Obj} {Q:PySem.Fin->Shared->Prop} (hh:A.handled=none) (D:ZipApart z TI TO i1 i2 l1 l2) (zr:Cy s.heap z TI TO (rawInt T) (.bool b1)) (al:s.heap.get? T=some o)
  (pt:IsPair s.heap TI (.ref i1) (.ref i2)) (j1:s.heap.IsListIter i1 l1 k1) (m1:s.heap.IsList l1 us) (eu:us[k1]?=none)
  (hE:∀h' e,(∀c o,c≠z->c≠i1->c≠i2->s.heap.get? c=some o->h'.get? c=some o)->(∃o,h'.get? e=some o/\o.cls=.type "StopIteration")->E (.ref e) { s with heap:=h' }) :
  wpAny (model prog w) A (Builtin.«zip.__next__» ⟨[.ref z],[]⟩) Q E s:=by
 change wpAny _ _ (field (Value.ref z) 2 >>= _) _ _ s
 refine wpAny_bind (wpAny_field zr rfl (x:=.bool false) rfl ?_)
 change wpAny _ _ (field (Value.ref z) 3 >>= _) _ _ s
 refine wpAny_bind (wpAny_field zr rfl (x:=.ref TI) rfl (wpAny_bind (wpAny_seqItems pt rfl ?_)))
 change wpAny _ _ (Builtin.SmallTypes.ownedTupleIsFree (Value.ref z) >>= _) _ _ s
 refine wpAny_bind (BP zr al λg1 zr1 sb1=>?_);simp only[jI,if_false];refine wpAny_bind ?_;rw[<- Array.forIn_toList];simp only[M7,D9];refine wpAny_bind (wpAny_bind (wpAny_holding ?_))
 change wpAny _ _ (Builtin.SmallTypes.nextOf (Value.ref i1) >>= _) _ _ _
 exact wpAny_bind (wpAny_nextOf_list_end hh (j1.extBut sb1.extBut D.i1z) (m1.extBut sb1.extBut D.l1z) eu λg2 e xb he=>hE g2 e (λc o c1 c2 _ q=>xb _ _ c2 (sb1.extBut _ _ c1 q)) he)
theorem Kk {z TI TO T i1 i2 l1 l2:Addr} {k1 k2:Nat} {us ws:Array Value} {u v:Value} {b1:Bool} {o:Obj} {Q:Option Value->Shared->Prop} (D:ZipApart z TI TO i1 i2 l1 l2) (zr:Cy s.heap z TI TO (rawInt T) (.bool b1)) (al:s.heap.get? T=some o)
  (pt:IsPair s.heap TI (.ref i1) (.ref i2)) (j1:s.heap.IsListIter i1 l1 k1) (j2:s.heap.IsListIter i2 l2 k2) (m1:s.heap.IsList l1 us) (m2:s.heap.IsList l2 ws) (eu:us[k1]?=some u) (ev:ws[k2]?=some v)
  (hQ:∀h',Cy h' z TI TO (rawInt T) (.bool true)->h'.IsListIter i1 l1 (k1+1)->h'.IsListIter i2 l2 (k2+1)->IsPair h' s.heap.objs.size u v->(∀c o,c≠z->c≠i1->c≠i2->s.heap.get? c=some o->h'.get? c=some o)->Q (some (.ref s.heap.objs.size)) { s with heap:=h' }) :
  wpAny (model prog w) A (pyNext (.ref z)) Q E s:=by
 have ty:s.TypeIs (.ref z) "zip":=⟨_,zr,rfl⟩;unfold pyNext;refine wpAny_bind (wpAny_attempt (wpAny_callSpecial?_slot (name:=Str.ofString "__next__") ty sJ (wpAny_call_entry sJ ty PySem.F.entry_zip_next ?_ (Sm _))));exact Kq D zr al pt j1 j2 m1 m2 eu ev λh' a1 a2 a3 a4 a5=>wpAny_pure (hQ h' a1 a2 a3 a4 a5)
theorem Kj {z TI TO T i1 i2 l1 l2:Addr} {k1:Nat} {us:Array Value} {b1:Bool} {o:Obj} {Q:Option Value->Shared->Prop} (hh:A.handled=none) (D:ZipApart z TI TO i1 i2 l1 l2) (zr:Cy s.heap z TI TO (rawInt T) (.bool b1)) (al:s.heap.get? T=some o)
  (pt:IsPair s.heap TI (.ref i1) (.ref i2)) (j1:s.heap.IsListIter i1 l1 k1) (m1:s.heap.IsList l1 us) (eu:us[k1]?=none)
  (hQ:∀h',(∀c o,c≠z->c≠i1->c≠i2->s.heap.get? c=some o->h'.get? c=some o)->Q none { s with heap:=h' }):wpAny (model prog w) A (pyNext (.ref z)) Q E s:=by
 have ty:s.TypeIs (.ref z) "zip":=⟨_,zr,rfl⟩;unfold pyNext;refine wpAny_bind (wpAny_attempt (wpAny_callSpecial?_slot (name:=Str.ofString "__next__") ty sJ (wpAny_call_entry sJ ty PySem.F.entry_zip_next ?_ (Sm _))));refine LU hh D zr al pt j1 m1 eu λh' e kk ⟨oe,he,hc⟩=>?_
 exact wpAny_bind (wpAny_isInstance (T:="StopIteration") (b:=true) ⟨oe,he,hc⟩ isSubtype_stop (wpAny_pure (hQ _ kk)))
end
section
variable {X:Cx} {pins:List (Addr×Obj)} {σ:St} {H:Hp} {s:Shared}
theorem Inv.moved {h':Heap} {ch:List Addr} {g':Array GenState} {d':Drawn} {t':Nat} (I:Inv X pins σ H s) (fx:∀b∈ch,lZ X pins H b) (up:∀b o,b∉ch->s.heap.get? b=some o->h'.get? b=some o) (hg:AllBare g') :
  Inv X pins σ H { s with heap:=h',gens:=g',drawn:=d',toks:=t' }:=by
 have nx:∀b o,H b=some o->b∉ch:=λb o e hb=>by have:=(fx b hb).1;rw[this] at e;cases e
 refine I.step (ch:=ch) (λb hb=>?_) (λb o _ _ hb e _=>up b o hb e) (λb o _ _ hb e _=>⟨o.slots,up b o hb e⟩) (λb o hb e n=>n) (λb o hb e=>⟨o,up b o hb e⟩) (λb q e=>e) (λb o q e=>e) (λb q e=>⟨#[],by rw[e];simp⟩) (λm hm=>?_) (λb o e=>?_) hg
 ·obtain ⟨_,f1,_,f3,f4,f5⟩:=fx b hb;exact ⟨f3,f1,f4,f5⟩
 ·obtain ⟨o,es,ep,ho,r⟩:=hm;exact ⟨o,es,ep,up _ o (λz=>(fx _ z).2.1 rfl) ho,r⟩
 ·refine (I.hok b o e).stay (λc v' hc q=>up c v' ?_ q) (λc q=>q) λc xs q=>q
  rcases hc with rfl | hc
  ·exact nx _ _ e
  ·exact nx _ _ hc
theorem Inv.track {p:Addr} {o:HO} (I:Inv X pins σ H s) (fp:lZ X pins H p) (new:fZ X.prog X.w (upd H p o) s.heap p o):Inv X pins σ (upd H p o) s:=by
 have nt:∀{b:Addr} {u:HO},H b=some u->b≠p:=λe z=>by rw[z,fp.1] at e;cases e
 refine I.step (h':=s.heap) (g':=s.gens) (d':=s.drawn) (t':=s.toks) (ch:=[p]) (λb hb=>?_) (λb o _ _ _ e _=>e) (λb o _ _ _ e _=>⟨o.slots,e⟩) (λb o hb e n=>?_) (λb o _ e=>⟨o,e⟩) (λb q e=>by rw[bH (nt e)];exact e) (λb o q e=>by rw[bH (nt e)];exact e)
  (λb q e=>⟨#[],by rw[bH (nt e),e];simp⟩) (λm hm=>hm) (λb u e=>?_) I.bare
 ·have e:b=p:=by simpa using hb
  subst e;obtain ⟨_,f1,_,f3,f4,f5⟩:=fp;exact ⟨f3,f1,f4,f5⟩
 ·rw[bH λz=>hb (by simp [z])];exact n
 ·by_cases hb:b=p
  ·subst hb;rw[aK] at e;cases e;exact new
  ·rw[bH hb] at e;exact (I.hok b u e).stay (λc v _ q=>q) (λc q=>by rw[bH (nt q)];exact q) λc xs q=>by rw[bH (nt q)];exact q
end
def O6 (H:Hp) (p:V×V) (x:V):Prop:=∃T,x=.ref T/\H T=some (.tup [p.1,p.2])
theorem O6.same {H H':Hp} {p:V×V} {x:V} (h:O6 H p x) (e:aE H H'):O6 H' p x:=by obtain ⟨T,q,g⟩:=h;exact ⟨T,q,e _ _ g⟩
def Zst (h:Heap) (z TI TO:Addr) (base:Nat):Prop:=(∃a b,IsPair h TO a b)/\(IsZip h z TI TO .none\/∃(T:Addr) (b1:Bool) (o:Obj),Cy h z TI TO (rawInt T) (.bool b1)/\h.get? T=some o/\@LE.le Nat instLENat base T)
theorem Ea {h:Heap} {z TI TO i1 i2 l1 l2:Addr} {f0 f1 a b:Value} {k1 k2:Nat} {xs ys:Array Value} (hz:Cy h z TI TO f0 f1) (hTI:IsPair h TI (.ref i1) (.ref i2)) (hTO:IsPair h TO a b) (h1:h.IsListIter i1 l1 k1) (h2:h.IsListIter i2 l2 k2) (hl1:h.IsList l1 xs) (hl2:h.IsList l2 ys) (hT:TI≠TO) (hi:i1≠i2):ZipApart z TI TO i1 i2 l1 l2:=by
 obtain ⟨o1,g1,c1,_⟩:=h1;obtain ⟨o2,g2,c2,_⟩:=h2;obtain ⟨p1,q1,d1,_⟩:=hl1;obtain ⟨p2,q2,d2,_⟩:=hl2;have zt:Value.type "zip"≠.type "tuple":=pC (by decide);have it:Value.type "list_iterator"≠.type "tuple":=pC (by decide);have iz:Value.type "list_iterator"≠.type "zip":=pC (by decide);have lz:Value.type "list"≠.type "zip":=pC (by decide);have lt:Value.type "list"≠.type "tuple":=pC (by decide);have li:Value.type "list"≠.type "list_iterator":=pC (by decide)
 exact ⟨dw hTI hz zt.symm,dw hTO hz zt.symm,dw g1 hz (by rw[c1];exact iz),dw g2 hz (by rw[c2];exact iz),hT,dw hTI g1 (by rw[c1];exact it.symm),dw hTI g2 (by rw[c2];exact it.symm),dw hTO g1 (by rw[c1];exact it.symm),dw hTO g2 (by rw[c2];exact it.symm),hi,
  dw q1 hz (by rw[d1];exact lz),dw q1 hTO (by rw[d1];exact lt),dw q1 g1 (by rw[d1,c1];exact li),dw q1 g2 (by rw[d1,c2];exact li),dw q2 hz (by rw[d2];exact lz),dw q2 hTO (by rw[d2];exact lt),dw q2 g1 (by rw[d2,c1];exact li),dw q2 g2 (by rw[d2,c2];exact li)⟩
section
variable {X:Cx} {pins:List (Addr×Obj)} {σ:St}
theorem lZ.heap {H H':Hp} {b:Addr} (f:lZ X pins H b) (e:H' b=none):lZ X pins H' b:=⟨e,f.2⟩
structure Fj where
 z:Addr
 TI:Addr
 TO:Addr
 i1:Addr
 i2:Addr
 S:Addr
 base:Nat
def Fj.all (a:Fj):List Addr:=[a.z,a.TI,a.TO,a.i1,a.i2,a.S]
structure Fj.Ok (a:Fj):Prop where
 tt:a.TI≠a.TO
 ii:a.i1≠a.i2
 Sz:a.S≠a.z
 STI:a.S≠a.TI
 STO:a.S≠a.TO
 Si1:a.S≠a.i1
 Si2:a.S≠a.i2
 lt:∀b∈a.all,@LT.lt Nat instLTNat b a.base
structure OD (X:Cx) (pins:List (Addr×Obj)) (σ:St) (H1:Hp) (a:Fj) (l1 l2:Addr) (i:Nat) (H:Hp) (s:Shared):Prop where
 inv:Inv X pins σ H s
 same:aE H1 H
 fps:∀b∈a.all,lZ X pins H b
 sz:a.base<=s.heap.objs.size
 zst:Zst s.heap a.z a.TI a.TO a.base
 pt:IsPair s.heap a.TI (.ref a.i1) (.ref a.i2)
 j1:s.heap.IsListIter a.i1 l1 i
 j2:s.heap.IsListIter a.i2 l2 i
variable {a:Fj} {l1 l2:Addr} {H1 H:Hp} {s:Shared} {i:Nat} {xs ys:List V}
theorem OD.push {h':Heap} (L:OD X pins σ H1 a l1 l2 i H s) (O:a.Ok) (k:∀b o,b≠a.S->s.heap.get? b=some o->h'.get? b=some o) (hz:h'.objs.size=s.heap.objs.size):OD X pins σ H1 a l1 l2 i H { s with heap:=h' }:=by
 refine ⟨L.inv.moved (g':=s.gens) (d':=s.drawn) (t':=s.toks) (ch:=[a.S]) (λb hb=>?_) (λb o hb e=>k b o (λz=>hb (by simp [z])) e) L.inv.bare,L.same,L.fps,by show a.base<=h'.objs.size;rw[hz];exact L.sz,?_,k _ _ O.STI.symm L.pt,L.j1.at λo e=>k _ o O.Si1.symm e,L.j2.at λo e=>k _ o O.Si2.symm e⟩
 ·have e:b=a.S:=by simpa using hb
  rw[e];exact L.fps _ (by simp [Fj.all])
 ·obtain ⟨⟨c,d,z0⟩,z4⟩:=L.zst;refine ⟨⟨c,d,k _ _ O.STO.symm z0⟩,?_⟩;rcases z4 with z1 | ⟨T,b1,o,z1,z2,z3⟩
  ·exact .inl (k _ _ O.Sz.symm z1)
  ·refine .inr ⟨T,b1,o,k _ _ O.Sz.symm z1,k _ _ (λe=>?_) z2,z3⟩;have:=O.lt a.S (by simp [Fj.all]);rw[<- e] at this;exact absurd this (Nat.not_lt.mpr z3)
theorem KW {A':Around} {E:Value->Shared->Prop} {Q:Option Value->Shared->Prop} (O:a.Ok) (q1:bS X.K H1 l1 xs) (q2:bS X.K H1 l2 ys) {x y:V} (ex:xs[i]?=some x) (ey:ys[i]?=some y) (L:OD X pins σ H1 a l1 l2 i H s)
  (hQ:∀s',OD X pins σ H1 a l1 l2 (i+1) (upd H s.heap.objs.size (.tup [x,y])) s'->(∀c o,c∉[a.z,a.TO,a.i1,a.i2]->s.heap.get? c=some o->s'.heap.get? c=some o)->H s.heap.objs.size=none->Q (some (.ref s.heap.objs.size)) s'):wpAny (model X.prog X.w) A' (pyNext (.ref a.z)) Q E s:=by
 obtain ⟨I,sm,fps,sz,zst,pt,j1,j2⟩:=id L;obtain ⟨us,ru,pu,_⟩:=I.list (sm.seq q1);obtain ⟨ws,rw',pw,_⟩:=I.list (sm.seq q2);obtain ⟨u,eu,r1⟩:=ru.get ex;obtain ⟨v,ev,r2⟩:=rw'.get ey;have fx:∀b∈[a.z,a.TO,a.i1,a.i2],lZ X pins H b:=λb hb=>fps b (by simp only[Fj.all,aD,aO,or_false] at hb ⊢;rcases hb with e | e | e | e <;> simp [e])
 have hT0:H s.heap.objs.size=none:=I.hok.fresh (ak _);have fT:lZ X pins H s.heap.objs.size:=I.fpOk (ak _) hT0;have lt:∀b∈a.all,b≠s.heap.objs.size:=λb hb e=>by have:=O.lt b hb;rw[e] at this;exact absurd this (Nat.not_lt.mpr sz)
 have fin:∀h',(∀c o,c∉[a.z,a.TO,a.i1,a.i2]->s.heap.get? c=some o->h'.get? c=some o)->IsPair h' s.heap.objs.size u v->IsPair h' a.TI (.ref a.i1) (.ref a.i2)->h'.IsListIter a.i1 l1 (i+1)->h'.IsListIter a.i2 l2 (i+1)->Zst h' a.z a.TI a.TO a.base →
   Q (some (.ref s.heap.objs.size)) { s with heap:=h' }:=λh' up pr pt' j1' j2' zst'=>by
  have I2:Inv X pins σ H { s with heap:=h' }:=I.moved (g':=s.gens) (d':=s.drawn) (t':=s.toks) fx up I.bare;have I3:Inv X pins σ (upd H s.heap.objs.size (.tup [x,y])) { s with heap:=h' }:=I2.track fT ⟨ks rfl,[u,v],.cons r1 (.cons r2 .nil),⟨_,pr,rfl,_,rfl⟩⟩;refine hQ _ ⟨I3,sm.trans (aE.new hT0),λb hb=>(fps b hb).heap (by rw[bH (lt b hb)];exact (fps b hb).1),?_,zst',pt',j1',j2'⟩ up hT0;exact ai sz (bc (Heap.lt_size pr))
 obtain ⟨⟨c,d,z0⟩,z4⟩:=zst;rcases z4 with z1 | ⟨T,b1,o,z1,z2,z3⟩
 ·have D:=Ea z1 pt z0 j1 j2 pu.isList pw.isList O.tt O.ii;refine wpAny_pyNext_zip_item D z1 pt z0 j1 j2 pu.isList pw.isList (x:=u) (y:=v) (by simpa using eu) (by simpa using ev) λh' a1 a2 a3 a4 a5 a6 hk=>?_
  have up:∀c o,c∉[a.z,a.TO,a.i1,a.i2]->s.heap.get? c=some o->h'.get? c=some o:=λc o hc e=>by
   simp only[aD,aO,or_false,not_or] at hc;exact hk c o hc.1 hc.2.1 hc.2.2.1 hc.2.2.2 e
  exact fin h' up a5 (hk _ _ D.TIz D.TITO D.TIi1 D.TIi2 pt) a3 a4 ⟨⟨_,_,a2⟩,.inr ⟨s.heap.objs.size,false,_,a1,a5,sz⟩⟩
 ·have D:=Ea z1 pt z0 j1 j2 pu.isList pw.isList O.tt O.ii;refine Kk D z1 z2 pt j1 j2 pu.isList pw.isList (u:=u) (v:=v) (by simpa using eu) (by simpa using ev) λh' a1 a3 a4 a5 hk=>?_
  have up:∀c o,c∉[a.z,a.TO,a.i1,a.i2]->s.heap.get? c=some o->h'.get? c=some o:=λc o hc e=>by
   simp only[aD,aO,or_false,not_or] at hc;exact hk c o hc.1 hc.2.2.1 hc.2.2.2 e
  have Tn:∀b∈a.all,T≠b:=λb hb e=>by have:=O.lt b hb;rw[<- e] at this;exact absurd this (Nat.not_lt.mpr z3)
  exact fin h' up a5 (hk _ _ D.TIz D.TIi1 D.TIi2 pt) a3 a4 ⟨⟨_,_,hk _ _ D.TOz D.TOi1 D.TOi2 z0⟩,.inr ⟨T,true,o,a1,hk _ _ (Tn _ (by simp [Fj.all])) (Tn _ (by simp [Fj.all])) (Tn _ (by simp [Fj.all])) z2,z3⟩⟩
theorem KU {A':Around} {E:Value->Shared->Prop} {Q:Option Value->Shared->Prop} (hh:A'.handled=none) (O:a.Ok) (q1:bS X.K H1 l1 xs) (q2:bS X.K H1 l2 ys) (hi:xs.length<=i) (L:OD X pins σ H1 a l1 l2 i H s)
  (hQ:∀s',Inv X pins σ H s'->(∀c o,c∉[a.z,a.TO,a.i1,a.i2]->s.heap.get? c=some o->s'.heap.get? c=some o)->Q none s'):wpAny (model X.prog X.w) A' (pyNext (.ref a.z)) Q E s:=by
 obtain ⟨I,sm,fps,sz,zst,pt,j1,j2⟩:=id L;obtain ⟨us,ru,pu,_⟩:=I.list (sm.seq q1);obtain ⟨ws,rw',pw,_⟩:=I.list (sm.seq q2);have lx:=ru.length;have none1:us.toArray[i]?=none:=by simp;lia
 have fx:∀b∈[a.z,a.TO,a.i1,a.i2],lZ X pins H b:=λb hb=>fps b (by simp only[Fj.all,aD,aO,or_false] at hb ⊢;rcases hb with e | e | e | e <;> simp [e])
 have fin:∀h',(∀c o,c∉[a.z,a.TO,a.i1,a.i2]->s.heap.get? c=some o->h'.get? c=some o)->Q none { s with heap:=h' }:=λh' up=>hQ _ (I.moved (g':=s.gens) (d':=s.drawn) (t':=s.toks) fx up I.bare) up
 obtain ⟨⟨c,d,z0⟩,z4⟩:=zst;rcases z4 with z1 | ⟨T,b1,o,z1,z2,z3⟩
 ·have D:=Ea z1 pt z0 j1 j2 pu.isList pw.isList O.tt O.ii;refine wpAny_pyNext_zip_end hh D z1 pt z0 j1 j2 pu.isList pw.isList (.inl none1) λh' hk=>fin h' λc o hc e=>?_
  simp only[aD,aO,or_false,not_or] at hc;exact hk c o hc.1 hc.2.1 hc.2.2.1 hc.2.2.2 e
 ·have D:=Ea z1 pt z0 j1 j2 pu.isList pw.isList O.tt O.ii;refine Kj hh D z1 z2 pt j1 pu.isList none1 λh' hk=>fin h' λc o hc e=>?_
  simp only[aD,aO,or_false,not_or] at hc;exact hk c o hc.1 hc.2.2.1 hc.2.2.2 e
theorem KZ {A':Around} {R:Result->Shared->Prop} (hh:A'.handled=none) (O:a.Ok) (hz:xs.length<=sizeLine) (hl:ys.length=xs.length) (q1:bS X.K H1 l1 xs) (q2:bS X.K H1 l2 ys)
  (fin:∀s' H' ts acc c,Inv X pins σ H' s'->aE H1 H'->lZ X pins H' a.S->s'.heap.get? a.S=some (lobj acc c)->cU ts acc->Paired (O6 H') (xs.zip ys) ts->R (.ok (.ret .none)) s') :
  ∀(k i:Nat) (s:Shared) (H:Hp) (ts:List V) (acc:List Value) (c:Nat),xs.length - i=k->i<=xs.length->OD X pins σ H1 a l1 l2 i H s->s.heap.get? a.S=some (lobj acc c)->cU ts acc->Paired (O6 H) ((xs.zip ys).take i) ts →
   codeAny (model X.prog X.w) A' (.builtin "list.extend.loop" ⟨[.ref a.S,.ref a.z,.none],[]⟩) R s:=by
 have Sn:a.S∉[a.z,a.TO,a.i1,a.i2]:=λh=>by
  simp only[aD,aO,or_false] at h;rcases h with e | e | e | e
  ·exact O.Sz e
  ·exact O.STO e
  ·exact O.Si1 e
  ·exact O.Si2 e
 intro k
 induction k with
 | zero =>
  intro i s H ts acc c hk hi L gS rv prs;have e:i=xs.length:=by lia
  refine codeAny_builtin QP ?_;rw[Around.under_plainId nQ _]
  change wpAny _ A'.in1 (pyNext (Value.ref a.z) >>= _) _ _ s
  refine wpAny_bind (KU hh O q1 q2 (by lia) L λs' I' up=>wpAny_pure (fin s' H ts acc c I' L.same (L.fps _ (by simp [Fj.all])) (up _ _ Sn gS) rv ?_));rwa [aG (by rw[CI];lia)] at prs
 | succ k ih =>
  intro i s H ts acc c hk hi L gS rv prs;have hlt:i < xs.length:=by lia
  have lt:=prs.length;have la:=rv.length;refine codeAny_builtin QP ?_;rw[Around.under_plainId nQ _]
  change wpAny _ A'.in1 (pyNext (Value.ref a.z) >>= _) _ _ s
  refine wpAny_bind (KW O q1 q2 (x:=xs[i]) (y:=ys[i]'(by lia)) (by simp [hlt]) (by simp) L λs' L' up hT=>?_);have gS':=up _ _ Sn gS
  change wpAny _ A'.in1 (updateSeq a.S (·.push (Value.ref s.heap.objs.size)) >>= _) _ _ s'
  have small:acc.length<=sizeLine:=by
   rw[cT,CI] at lt
   lia
  refine wpAny_bind (wpAny_updateSeq gS' rfl (wpAny_pure ⟨plainId_quiet nQ _,?_⟩) (by rw[aL];exact small) (by
   show (acc.toArray.push (Value.ref s.heap.objs.size)).size<=sizeLine+1
   rw[Array.size_push,aL]
   lia))
  have gS2:=nA gS' (λb=>b.push (Value.ref s.heap.objs.size));have e2:(acc.toArray.push (Value.ref s.heap.objs.size))=(acc++[Value.ref s.heap.objs.size]).toArray:=by simp
  rw[e2] at gS2;refine ih (i+1) _ (upd H s.heap.objs.size (.tup [xs[i],ys[i]'(by lia)])) (ts++[.ref s.heap.objs.size]) (acc++[.ref s.heap.objs.size]) _ (by lia) hlt (L'.push O (λb o hb e=>(Heap.get?_update_other _ _ (Ne.symm hb)).trans e) (Heap.size_update ..)) gS2 (rv.append (show cU [V.ref s.heap.objs.size] [Value.ref s.heap.objs.size] from .cons rfl .nil)) ?_;have zp:(xs.zip ys)[i]?=some (xs[i],ys[i]'(by lia)):=by simp [QQ,hlt]
  rw[take_snoc zp];exact (Paired.imp' (λ_ _ z=>z.same (aE.new hT)) prs).snoc ⟨_,rfl,aK⟩
theorem HE:typeLookup (.type "zip") "__len__"=pure Option.none:=by rw[typeLookup_type,builtinLookup_eq_fast];kernel_rfl
theorem Fw:typeLookup (.type "zip") "__length_hint__"=pure Option.none:=by rw[typeLookup_type,builtinLookup_eq_fast];kernel_rfl
theorem KY {A' : Around} {R : Result → Shared → Prop} (hh : A'.handled = none) (O : a.Ok) (hz : xs.length ≤ sizeLine) (hl : ys.length = xs.length) (q1 : bS X.K H1 l1 xs) (q2 : bS X.K H1 l2 ys) (L : OD X pins σ H1 a l1 l2 0 H s) (gS : s.heap.get? a.S = some (lobj [] 0)) (z0 : IsZip s.heap a.z a.TI a.TO .none)
    (fin : ∀ s' H' ts acc c, Inv X pins σ H' s' → aE H1 H' → lZ X pins H' a.S → s'.heap.get? a.S = some (lobj acc c) → cU ts acc → Paired (O6 H') (xs.zip ys) ts → R (.ok (.ret .none)) s') :
    wpAny (model X.prog X.w) A'.in1 (Builtin.«list.__init__» ⟨[.ref a.S, .ref a.z], []⟩) (λfl s' => match fl with | .done f => R (.ok f) s' | .again c' => c'.quiet = true /\ codeAny (model X.prog X.w) A' c' R s') (λe s' => R (.error e) s') s := by
  change wpAny _ A'.in1 (do let old <- Builtin.List.listItems (Value.ref a.S); Builtin.List.listUpdate (Value.ref a.S) (λ_ => #[]); letGo old.toList.reverse; Builtin.List.listExtendWith (Value.ref a.S) (Value.ref a.z) Value.none) _ _ s
  refine wpAny_bind ?_;unfold Builtin.List.listItems;refine wpAny_bind (wpAny_seqItems gS rfl (wpAny_pure ?_))
  change wpAny _ A'.in1 (updateSeq a.S (λ_ => #[]) >>= λ_ => letGo (#[] : Array Value).toList.reverse >>= λ_ => Builtin.List.listExtendWith (Value.ref a.S) (Value.ref a.z) Value.none) _ _ s
  refine wpAny_bind (wpAny_updateSeq gS rfl ?_);have g1 := nA gS (λ_ => (#[] : Array Value));obtain ⟨n1, g1⟩ : ∃ n1, (s.heap.update a.S (Obj.mapSeq λ_ => (#[] : Array Value))).get? a.S = some (lobj [] n1) := ⟨_, g1⟩;have L1 := L.push (h' := s.heap.update a.S (Obj.mapSeq λ_ => (#[] : Array Value))) O (λb o hb e => (Heap.get?_update_other _ _ (Ne.symm hb)).trans e) (Heap.size_update ..);have z1 : IsZip (s.heap.update a.S (Obj.mapSeq λ_ => (#[] : Array Value))) a.z a.TI a.TO .none := (Heap.get?_update_other _ _ O.Sz).trans z0;refine wpAny_bind (wpAny_letGo ?_);unfold Builtin.List.listExtendWith;have ty : Shared.TypeIs { s with heap := s.heap.update a.S (Obj.mapSeq λ_ => (#[] : Array Value)) } (.ref a.z) "zip" := ⟨_, z1, rfl⟩;refine wpAny_bind (wpAny_typeOf ty ?_);have h1 : Builtin.List.listSameRef (.ref a.S) (.ref a.z) = false := by simp [Builtin.List.listSameRef, O.Sz]
  have h2 : (Value.type "zip" == Value.type "list") = false := by decide
  have h3 : (Value.type "zip" == Value.type "tuple") = false := by decide
  simp only [h1, h2, h3, Bool.or_false, jI, if_false];refine wpAny_bind (wpAny_pyIter_zip z1 (wpAny_bind (wpAny_holding ?_)));unfold Builtin.List.listLengthHint;refine wpAny_bind (wpAny_specialOf ty HE ?_)
  change wpAny _ A'.in1 (specialOf (Value.ref a.z) (Str.ofString "__length_hint__") >>= _) _ _ _
  refine wpAny_bind (wpAny_specialOf ty Fw (wpAny_pure ?_))
  change wpAny _ A'.in1 (rule "list.extend.makes-room" >>= λ_ => Builtin.List.listTouch (Value.ref a.S) >>= λ_ => again (.builtin "list.extend.loop" ⟨[Value.ref a.S, Value.ref a.z, Value.none], []⟩)) _ _ _
  refine wpAny_bind (wpAny_rule (wpAny_bind ?_))
  change wpAny _ A'.in1 (updateSeq a.S (·.push Value.none) >>= λ_ => updateSeq a.S (·.pop)) _ _ _
  refine wpAny_bind (wpAny_updateSeq g1 rfl ?_);have g2 := nA g1 (λb => b.push Value.none);obtain ⟨n2, g2⟩ : ∃ n2, ((s.heap.update a.S (Obj.mapSeq λ_ => (#[] : Array Value))).update a.S (Obj.mapSeq λb => b.push Value.none)).get? a.S = some (lobj [Value.none] n2) := ⟨_, g2⟩;have L2 := L1.push (h' := (s.heap.update a.S (Obj.mapSeq λ_ => (#[] : Array Value))).update a.S (Obj.mapSeq λb => b.push Value.none)) O (λb o hb e => (Heap.get?_update_other _ _ (Ne.symm hb)).trans e) (Heap.size_update ..);refine wpAny_updateSeq g2 rfl ?_ (ks rfl);have g3 := nA g2 (λb => b.pop);have L3 := L2.push (h' := ((s.heap.update a.S (Obj.mapSeq λ_ => (#[] : Array Value))).update a.S (Obj.mapSeq λb => b.push Value.none)).update a.S (Obj.mapSeq λb => b.pop)) O (λb o hb e => (Heap.get?_update_other _ _ (Ne.symm hb)).trans e) (Heap.size_update ..);exact wpAny_pure ⟨plainId_quiet nQ _, KZ hh O hz hl q1 q2 fin _ 0 _ H [] [] _ rfl (bx _) L3 g3 .nil .nil⟩
end
section
variable {X:Cx}
theorem Pa (n:Nat):Fj.Ok ⟨n+4,n+2,n+3,n,n+1,n+5,n+5+1⟩:=by
 have ne:∀p q:Nat,p≠q->@Ne Addr p q:=λ_ _ h=>h
 refine ⟨ne (n+2) (n+3) (by lia),ne n (n+1) (by lia),ne (n+5) (n+4) (by lia),ne (n+5) (n+2) (by lia),ne (n+5) (n+3) (by lia),ne (n+5) n (by lia),ne (n+5) (n+1) (by lia),λb hb=>?_⟩;have hb':b∈[n+4,n+2,n+3,n,n+1,n+5]:=hb;show @LT.lt Nat instLTNat b (n+5+1)
 simp only[aD,aO,or_false] at hb';rcases hb' with e | e | e | e | e | e <;> (rw[e];exact bI (jt _) (by lia))
def Fz (K:FG9) (ta:TA):TE:=λσ H Q=>ta σ H λvs H1=>∃(l1 l2:Addr) (xs ys:List V),vs=[.ref l1,.ref l2]/\bS K H1 l1 xs/\bS K H1 l2 ys/\ys.length=xs.length /\
 ∀L ts H',aE H1 H'->H1 L=none->H' L=some (.lst ts)->Paired (O6 H') (xs.zip ys) ts->Q (.ref L) H'
theorem HV {e1 e2:Expr} {ta:TA} {p p2 pos pos2:Pos} (hg:Gl X "list") (hm:X.mg "list"=none) (hg2:Gl X "zip") (hm2:X.mg "zip"=none) (ha:PA X [e1,e2] ta) (hc:X.calm=true:=by rfl)
  (hs:starEach [e1,e2] X.env=[(false,eval e1 X.env),(false,eval e2 X.env)]:=by rfl) (hs2:starEach [e2] X.env=[(false,eval e2 X.env)]:=by rfl)
  (hs3:starEach [Expr.Call (.Name "zip" p2) [e1,e2] [] pos2] X.env=[(false,eval (.Call (.Name "zip" p2) [e1,e2] [] pos2) X.env)]:=by rfl) :
  PE X (.Call (.Name "list" p) [.Call (.Name "zip" p2) [e1,e2] [] pos2] [] pos) (Fz X.K ta):=by
 intro pins s σ H Q I h;refine wpAny_Call_Name_kw (lV I hg hm boot_list ?_);refine PyProof.Rows.callWith_type1 ?_ (by rw[hs3];rfl) rfl;rw[hs3];show wpAny _ _ (spliced ((false,eval (.Call (.Name "zip" p2) [e1,e2] [] pos2) X.env) :: [])) _ _ s
 refine Calls.spliced_cons ?_;refine Call_ (lV I hg2 hm2 boot_zip (PyProof.Rows.callWith_type1 (fR (ha pos2 pins s σ H _ I h) λus s1 ⟨vs,H1,I1,r1,q1⟩=>?_) (by rw[hs,hs2]) (by rw[hs2];rfl)));obtain ⟨l1,l2,xs,ys,e,qx,qy,hl,q⟩:=q1;subst e;obtain ⟨u,v,rfl,ru,rv⟩:=vals2 r1;cases ru;cases rv;obtain ⟨us,rx,px,hz⟩:=I1.list qx;obtain ⟨ws,ry,py,_⟩:=I1.list qy;refine call_zip_2 px.isList py.isList λh' a1 a2 a3 a4 a5 a6 hk=>?_
 refine Calls.spliced_nil ?_;have I2:Inv X pins σ H1 { s1 with heap:=h' }:=I1.kept (t':=s1.toks) hk;have up:∀b o,h'.get? b=some o->(h'.push { cls:=.type "list",data:=.seq #[] }).get? b=some o:=λb o e=>Heap.get?_push_of_some _ e
 have O:Fj.Ok ⟨s1.heap.objs.size+4,s1.heap.objs.size+2,s1.heap.objs.size+3,s1.heap.objs.size,s1.heap.objs.size+1,h'.objs.size,h'.objs.size+1⟩:=by
  rw[a6];exact Pa s1.heap.objs.size
 have old:∀b∈(Fj.mk (s1.heap.objs.size+4) (s1.heap.objs.size+2) (s1.heap.objs.size+3) s1.heap.objs.size (s1.heap.objs.size+1) h'.objs.size (h'.objs.size+1)).all,s1.heap.objs.size<=b:=λb hb=>by
  rw[a6] at hb;simp only[Fj.all,aD,aO,or_false] at hb;rcases hb with rfl | rfl | rfl | rfl | rfl | rfl <;> first | exact AI _ _ | exact ak _
 have gS:(h'.push { cls:=.type "list",data:=.seq #[] }).get? h'.objs.size=some (lobj [] 0):=Heap.get?_push_size _ rfl;refine callType_codes (Q₁:=λob t=>ob=.ref h'.objs.size/\t={ s1 with heap:=h'.push { cls:=.type "list",data:=.seq #[] } }) PySem.F.called_list (PySem.F.typeCall_list_1 _) PySem.F.entry_list_init (code_list_new _ ⟨rfl,rfl⟩) λob t ht=>?_
 obtain ⟨rfl,rfl⟩:=ht;refine ⟨⟨_,gS,rfl⟩,PySem.F.args_list_init_2 _ _,?_⟩
 have L:OD X pins σ H1 ⟨s1.heap.objs.size+4,s1.heap.objs.size+2,s1.heap.objs.size+3,s1.heap.objs.size,s1.heap.objs.size+1,h'.objs.size,h'.objs.size+1⟩ l1 l2 0 H1 { s1 with heap:=h'.push { cls:=.type "list",data:=.seq #[] } } :=
  ⟨I2.kept (t':=s1.toks) up,aE.refl _,λb hb=>I1.fpOk (old b hb) (I1.hok.fresh (old b hb)),by rw[Heap.size_push];exact ak _,⟨⟨_,_,up _ _ a3⟩,.inl (up _ _ a1)⟩,up _ _ a2,a4.at λo e=>up _ o e,a5.at λo e=>up _ o e⟩
 refine KY (A':=X.A.in1) (I.ok.hd hc) O hz hl qx qy L gS (up _ _ a1) λs' H' ts acc c I' sm fS gS' vs' prs=>⟨rfl,?_⟩
 have nS:H1 h'.objs.size=none:=I1.hok.fresh (old _ (by simp [Fj.all]));have lt:=prs.length;rw[CI] at lt;exact ⟨.ref h'.objs.size,_,I'.track (o:=.lst ts) fS ⟨by lia,acc,c,vs',gS'⟩,rfl,q _ ts _ (sm.trans (aE.new fS.1)) nS aK (Paired.imp' (λ_ _ z=>z.same (aE.new fS.1)) prs)⟩
end
end L2
namespace Nm
def zS:List Int->Int->Int
 | [],m=>m
 | b :: r,m=>zS r (m*(b / g m b))
theorem yH {m b:Int} (hm:0 < m) (hb:0 < b):0 < m*(b / g m b):=pS hm (EV (t:=m) hb)
theorem ET {m b : Int} : b ∣ m * (b / g m b) := by
  have h1 := Ci m b;refine ⟨lo m b, ?_⟩;have h2 : b / g m b * g m b = b := zU m b
  calc m * (b / g m b) = lo m b * g m b * (b / g m b) := by rw [h1]
    _ = lo m b * (b / g m b * g m b) := by rw [dQ, fQ (g m b)]
    _ = b * lo m b := by rw [h2, fQ]
theorem Ck:∀{bs:List Int} {m:Int},0 < m->(∀b∈bs,0 < b)->0 < zS bs m
 | [],_,hm,_=>hm
 | b :: r,m,hm,h=>Ck (bs:=r) (yH hm (h b dC)) λc hc=>h c (b8 _ hc)
theorem GG:∀{bs:List Int} {m:Int},m∣zS bs m
 | [],_=>Int.dvd_refl _
 | b :: r,m=>Int.dvd_trans (Int.dvd_mul_right m _) (GG (bs:=r))
theorem GD:∀{bs:List Int} {m b:Int},b∈bs->b∣zS bs m
 | c :: r,m,b,h=>by
  rcases aD.mp h with rfl | h
  ·exact Int.dvd_trans ET (GG (bs:=r))
  ·exact GD (bs:=r) h
end Nm
namespace L2
open PySem PySem.Spec PyProof.Rows Nm
def Fl (K:FG9) (H:Hp) (p:Addr) (ns:List (Int×Int)):Prop:=∃xs,H p=some (.lst xs)/\Paired (λn x=>zj K H x n) ns xs
theorem Fl.same {K:FG9} {H H':Hp} {p:Addr} {ns:List (Int×Int)} (h:Fl K H p ns) (e:aE H H'):Fl K H' p ns:=by obtain ⟨xs,g,q⟩:=h;exact ⟨xs,e _ _ g,Paired.imp' (λ_ _ z=>e.num z) q⟩
def Gj (K:FG9) (T:String):V->Hp->VK->Prop:=λx H Q=>HR K T x H Q\/∃a xs b,x=.ref a/\lA K H a xs/\PySem.W.kitOne K (.type "tuple") (.type T)=some b/\Q (.bl b) H
theorem DK:∀{bs:List Int} {m b:Int},zS (bs++[b]) m=zS bs m*(b / g (zS bs m) b)
 | [],_,_=>rfl
 | c :: r,m,b=>DK (bs:=r)
def fN (ns:List (Int×Int)) (B:Int):List Int:=ns.map λn=>n.1*(B / n.2)
def iJ (ns:List (Int×Int)):Int:=zS (ns.map (·.2)) 1
def My (ns ms:List (Int×Int)):Int:=(List.zipWith (·*·) (fN ns (iJ ns)) (fN ms (iJ ms))).sum
theorem vI {ns:List (Int×Int)} {n:Int×Int} (h:n∈ns):n.2∣iJ ns:=GD (aH.mpr ⟨n,h,rfl⟩)
theorem HP {σ:St} {H:Hp} {Q:VK} {K:FG9} {ta:TA} (h:ta σ H λvs H1=>∃(l1 l2:Addr) (xs ys:List V),vs=[.ref l1,.ref l2]/\bS K H1 l1 xs/\bS K H1 l2 ys/\ys.length=xs.length /\
 ∀L ts H',aE H1 H'->H1 L=none->H' L=some (.lst ts)->Paired (O6 H') (xs.zip ys) ts->Q (.ref L) H'):Fz K ta σ H Q:=h
theorem S4 {m b:Int} (hb:0 < b) {k:Nat} (h:Sz k b):Sz k (g m b):=h.le (by
 have h1:(g m b).natAbs=Int.gcd m b:=by unfold g;simp
 rw[h1];exact ko (by lia) (by have:=fH (a:=m) (b:=b);exact gO.mpr this |> λz=>by simpa using z))
theorem Nc {ts us:List Int} {i:Nat} {pq:V×V} (h:((ts.map V.int).zip (us.map V.int))[i]?=some pq):∃t u,ts[i]?=some t/\us[i]?=some u/\pq=(.int t,.int u):=by
 rw[QQ,aM,aM] at h;obtain ⟨h1,h2⟩:=h;cases e1:ts[i]? with
 | none=>rw[e1] at h1;cases h1
 | some t =>
  cases e2:us[i]? with
  | none=>rw[e2] at h2;cases h2
  | some u =>
   rw[e1] at h1;rw[e2] at h2;refine ⟨t,u,rfl,rfl,?_⟩;cases pq;simp at h1 h2;rw[h1,h2]
def JY (K:FG9):Sp:=λvs H Q _=>∃x n,vs=[x]/\zj K H x n/\AA n/\∀H',aE H H'->Q (.bl true) H'
inductive zH (K:FG9) (vs:List V) (H:Hp) (Q:VK) (E9:XK):Prop
 | mk (p:Addr) (ns:List (Int×Int)):vs=[.ref p,.int ns.length]->Fl K H p ns->ns.length<=1000->(∀n∈ns,AA n)->(∀H',aE H H'->Q (.bl true) H')->zH K vs H Q E9
theorem sW {X:Cx} {a:Expr} {ta:TE} {pos:Pos} {c:Str} {T:String} {p p2:Pos} (hg:Gl X "isinstance") (hm:X.mg "isinstance"=none) (hb:bootBuiltins c=some (.type T)) (hmc:X.mg c=none) (ha:PE X a ta) (hgc:Gl X c:=by rfl) (hn:c≠"__name__":=by decide)
  (hd:(c == ("__debug__":Str))=false:=by decide) (he:starEach [a,.Name c p2] X.env=[(false,eval a X.env),(false,eval (.Name c p2) X.env)]:=by rfl)
  (hpl:(backTo pos (starEach [.Name c p2] X.env)).any (·.1)=false:=by rfl) (he2:starEach [.Name c p2] X.env=[(false,eval (.Name c p2) X.env)]:=by rfl):PE X (.Call (.Name "isinstance" p) [a,.Name c p2] [] pos) (Su (Gj X.K T) ta):=by
 intro pins s σ H Q I h;refine wpAny_Call_Name_kw (lV I hg hm PyProof.Rows.boot_isinstance ?_);have hA:PA X [a,.Name c p2] (uU ta (uU (tC (.ty T)) JS)):=aa ha (aa (A0 hgc hmc hb rfl hn hd) ag he2) (by rw[he,he2])
 have hq:uU ta (uU (tC (.ty T)) JS) σ H (λvs H1=>∃x,vs=[x,.ty T]/\Gj X.K T x H1 Q):=by
  show ta σ H λx H1=>∃x',[x,V.ty T]=[x',V.ty T]/\Gj X.K T x' H1 Q
  have e:(λx H1=>∃x',[x,V.ty T]=[x',V.ty T]/\Gj X.K T x' H1 Q)=λx H1=>Gj X.K T x H1 Q:=by
   funext x H1;apply propext;constructor
   ·rintro ⟨x',e,q⟩;cases e;exact q
   ·intro q;exact ⟨x,rfl,q⟩
  rw[e];exact h
 refine PyProof.Rows.callWith_builtin1 (fR (hA pos pins s σ H _ I hq) λus s1 ⟨vs,H1,I1,r1,x,e,q1⟩=>?_) (by rw[he,he2]) hpl;subst e;obtain ⟨u,w',rfl,ru,rt⟩:=vals2 r1;cases rt;rcases q1 with ⟨t,bb,ty,ek,q⟩ | ⟨ad,xs,bb,rfl,hs,ek,q⟩
 ·exact DL I1 ru ty ek λtk=>⟨.bl bb,H1,I1.tok tk,rfl,q⟩
 ·cases ru;obtain ⟨its,_,⟨o,g1,g2,_⟩,_⟩:=I1.tuple hs;exact dH xM I1.kIn ⟨o,g1,g2⟩ ek (λz=>nomatch z) λtk=>⟨.bl bb,H1,I1.tok tk,rfl,q⟩
theorem Lr {H:Hp} {Q:VK} {l:Addr} {k:Nat} {x:V} (h:H l=some (.lst [x])) (hk:k<=1000) (q:∀p H',aE H H'->H p=none->H' p=some (.lst (List.replicate k x))->Q (.ref p) H'):RL (.ref l) (.int k) H Q :=
 ⟨l,k,[x],rfl,rfl,h,by lia,by lia,bc (bF (by simp;lia)),λp hp=>q p _ (aE.new hp) hp (by rw[aK];simp)⟩
theorem Qz {xs:List V} {k:Nat} (h:k<=xs.length):xi xs none (some (k:Int))=xs.take k:=by
 unfold xi;rw[HT.Gd,HT.AX,uP h];simp
theorem xT {α β:Type} {F:α->β->Prop} {x:α} {y:β} (h:F x y):∀m:Nat,Paired F (List.replicate m x) (List.replicate m y)
 | 0=>.nil
 | m+1=>.cons h (xT h m)
theorem fE {n a:Nat} (h:a < n):KO n (a:Int)=some a:=by
 unfold KO;rw[if_pos (by lia),if_pos (by lia),Int.toNat_natCast]
theorem MD {xs:List V} {k:Nat}:xi xs none (some (k:Int))=xs.take k:=by
 by_cases h:k<=xs.length
 ·exact Qz h
 ·unfold xi;rw[HT.Gd,HT.AX,Nat.min_eq_right (by lia),aG (by simp),aG (by lia)];rfl
theorem vb {α β:Type} {F:α->β->Prop}:∀{l1:List α} {l2:List β} (_:Paired F l1 l2) (k:Nat),Paired F (l1.take k) (l2.take k)
 | _,_,.nil,k=>by simp;exact .nil
 | _,_,.cons h r,0=>.nil
 | _,_,.cons h r,k+1=>.cons h (vb r k)
def NV (K:FG9):List V->Hp->VK->Prop:=λxs H Q=>∃p ys,xs=[.ref p]/\(bS K H p ys\/lA K H p ys)/\∀l,H l=none->Q (.ref l) (upd H l (.lst ys))
theorem fL {X:Cx} (K:FG9) (hK:X.K=K):rz X (.type "list") (NV K):=by subst hK;exact tR
theorem aE.none {H H':Hp} {l:Addr} (s:aE H H') (h:H' l=Option.none):H l=Option.none:=by
 cases e:H l with
 | none=>rfl
 | some o=>have:=s _ _ e;rw[h] at this;cases this
def O7 (K:FG9) (H:Hp) (p:Addr) (rows:List (List (Int×Int))):Prop:=∃xs,H p=some (.lst xs)/\Paired (λns x=>∃q,x=V.ref q/\Fl K H q ns) rows xs
theorem La {b:Int} (h:b.natAbs<=1000000):Sz 20 b:=bJ h (by decide)
theorem cV.none {H H':Hp} {b l:Addr} (u:cV b H H') (B:iC H' b) (h:H' l=Option.none):H l=Option.none:=by
 cases e:H l with
 | none=>rfl
 | some o =>
  by_cases z:l=b
  ·obtain ⟨_,_,_,_,_,e2,_⟩:=B;rw[<- z,h] at e2;cases e2
  ·have:=u.1 l o e z;rw[h] at this;cases this
inductive Bw (K:FG9) (vs:List V) (H:Hp) (Q:VK) (E9:XK):Prop
 | mk (p:Addr) (rows:List (List (Int×Int))) (m:Nat):vs=[.ref p,.int rows.length,.int m]->O7 K H p rows->rows.length<=1000->m<=1000->((∀ns∈rows,ns.length=m/\∀n∈ns,AA n))->(∀H',aE H H'->Q (.bl true) H')->Bw K vs H Q E9
end L2
namespace Nm
def nm (q:Rat):Int×Int:=(q.num,(q.den:Int))
theorem kI (q:Rat):0 < (nm q).2:=by have:=q.den_pos;show 0 < (q.den:Int);lia
theorem EO (q:Rat):Int.gcd (nm q).1 (nm q).2=1:=q.reduced
theorem Qh {p q:Rat} (h:nm p=nm q):p=q:=by
 have h1:p.num=q.num:=congrArg Prod.fst h;have h2:(p.den:Int)=q.den:=congrArg Prod.snd h;exact Rat.ext h1 (by lia)
theorem sZ (q : Rat) : (q.num : Rat) = q * (q.den : Rat) := by
  have h := Rat.num_divInt_den q;rw [Rat.divInt_eq_div] at h
  have hd : ((q.den : Int) : Rat) ≠ 0 := by
    intro z;have z := AG.mp z;have := q.den_pos
    lia
  have e : ((q.den : Int) : Rat) = (q.den : Rat) := aU _
  calc (q.num : Rat) = (q.num : Rat) / ((q.den : Int) : Rat) * ((q.den : Int) : Rat) := (Rat.div_mul_cancel hd).symm
    _ = q * (q.den : Rat) := by rw [h, e]
theorem RQ {a b:Int} {q:Rat} (hb:0 < b) (hg:Int.gcd a b=1) (e:q*(b:Rat)=(a:Rat)):(a,b)=nm q:=by
 have h1:a*(q.den:Int)=q.num*b:=by
  apply dX.mp;rw[aW,aW,<- e,sZ,aU];grind
 obtain ⟨e1,e2⟩:=uniq hb (kI q) hg (EO q) h1;exact Prod.ext e1 e2
theorem tx {t b:Int} {q:Rat} (hb:0 < b) (e:q*(b:Rat)=(t:Rat)):(lo t b,hi t b)=nm q:=by
 refine RQ (EV hb) (Cf (by lia)) ?_;have h:=Cg t b;have hb':(b:Rat)≠0:=λz=>by have:=AG.mp z;lia
 have h2:((lo t b:Int):Rat)*(b:Rat)=(t:Rat)*((hi t b:Int):Rat):=by rw[<- aW,h,aW]
 rw[<- e] at h2;have h3:(q*((hi t b:Int):Rat) - ((lo t b:Int):Rat))*(b:Rat)=0:=by grind
 rcases CD.mp h3 with h4 | h4
 ·grind
 ·exact absurd h4 hb'
def Fr (M V:Nat) (q:Rat):Prop:=∃z:Int,q*(M:Rat)=(z:Rat)/\z.natAbs<=V*M
theorem Fr.mono {M V V':Nat} {q:Rat} (h:Fr M V q) (l:V<=V'):Fr M V' q:=by obtain ⟨z,e,b⟩:=h;exact ⟨z,e,ai b (aA _ l)⟩
theorem Fr.scale {M V:Nat} {q:Rat} (h:Fr M V q) (k:Nat):Fr (M*k) V q:=by
 obtain ⟨z,e,b⟩:=h;refine ⟨z*k,?_,?_⟩
 ·rw[eT,aW,<- e,aU,Rat.mul_assoc]
 ·rw[dg,cg,<- cy];exact aA _ b
theorem Fr.scaleL {M V:Nat} {q:Rat} (h:Fr M V q) (k:Nat):Fr (k*M) V q:=by rw[b6];exact h.scale k
theorem Fr.dvd {M N V:Nat} {q:Rat} (h:Fr M V q) (d:M∣N):Fr N V q:=by obtain ⟨k,rfl⟩:=d;exact h.scale k
theorem Fr.add {M V W:Nat} {p q:Rat} (h:Fr M V p) (h':Fr M W q):Fr M (V+W) (p+q):=by
 obtain ⟨z,e,b⟩:=h;obtain ⟨z',e',b'⟩:=h';refine ⟨z+z',by rw[CG,<- e,<- e',Rat.add_mul],?_⟩;rw[MT];have:=Int.natAbs_add_le z z'
 lia
theorem Fr.neg {M V:Nat} {q:Rat} (h:Fr M V q):Fr M V (-q):=by
 obtain ⟨z,e,b⟩:=h;exact ⟨-z,by rw[dS,<- e,Rat.neg_mul],by rw[xN];exact b⟩
theorem Fr.sub {M V W:Nat} {p q:Rat} (h:Fr M V p) (h':Fr M W q):Fr M (V+W) (p - q):=by rw[Rat.sub_eq_add_neg];exact h.add h'.neg
theorem Fr.mul {M N V W : Nat} {p q : Rat} (h : Fr M V p) (h' : Fr N W q) : Fr (M * N) (V * W) (p * q) := by
  obtain ⟨z, e, b⟩ := h;obtain ⟨z', e', b'⟩ := h';refine ⟨z * z', ?_, ?_⟩
  · rw [eT, aW, <- e, <- e']; grind
  · rw [dg]
    calc z.natAbs * z'.natAbs ≤ (V * M) * (W * N) := aJ b b'
      _ = V * W * (M * N) := by rw [cy, Nat.mul_left_comm M, <- cy]
theorem Fr.zero {M V:Nat}:Fr M V 0:=⟨0,by simp,by simp⟩
theorem Fr.int {M V:Nat} {i:Int} (h:i.natAbs<=V):Fr M V (i:Rat):=⟨i*M,by rw[aW,aU],by rw[dg,cg];exact aA _ h⟩
theorem Fr.one {M V:Nat} (h:1<=V):Fr M V 1:=Fr.int (i:=1) h
theorem Fr.den {M V:Nat} {q:Rat} (h:Fr M V q):(q.den:Int)∣(M:Int):=by
 obtain ⟨z,e,b⟩:=h
 have h1:q.num*(M:Int)=z*(q.den:Int):=by
  apply dX.mp;rw[aW,aW,<- e,sZ,aU,aU];grind
 have h2:(q.den:Int)∣q.num*(M:Int):=⟨z,by rw[h1,fQ]⟩;exact tE (by rw[nC];exact EO q) h2
theorem Fr.den_le {M V:Nat} {q:Rat} (h:Fr M V q) (hM:0 < M):q.den<=M:=ko hM (AL.mp h.den)
theorem Fr.num_le {M V:Nat} {q:Rat} (h:Fr M V q) (hM:0 < M):q.num.natAbs<=V*M:=by
 have hd:=h.den;obtain ⟨z,e,b⟩:=h;obtain ⟨k,hk⟩:=AL.mp hd;have hk0:k≠0:=λz=>by rw[z,Bg] at hk;lia
 have h1:z=q.num*(k:Int):=by
  apply dX.mp;rw[aW,<- e,sZ,aU,hk,eT];grind
 rw[h1] at b;exact ai (rG (by lia)) b
theorem Fr.own (q:Rat) {V:Nat} (h:q.num.natAbs<=V):Fr q.den V q:=⟨q.num,(sZ q).symm,ai h (dA _ q.den_pos)⟩
theorem Fr.sz {M V k j:Nat} {q:Rat} (h:Fr M V q) (hM:0 < M) (h1:M<=2^k) (h2:V<=2^j):Sz (j+k+1) (nm q).1/\Sz (k+1) (nm q).2:=by
 constructor
 ·show q.num.natAbs < 2^(j+k+1)
  have h3:=h.num_le hM;have h4:V*M<=2^j*2^k:=aJ h2 h1;rw[eK,bo];have:=Nat.two_pow_pos (j+k);rw[bo] at this
  lia
 ·show (q.den:Int).natAbs < 2^(k+1)
  have h3:=h.den_le hM;rw[cg,eK];have:=Nat.two_pow_pos k
  lia
theorem Fr.sum {M V:Nat}:∀{l:List Rat},(∀x∈l,Fr M V x)->Fr M (l.length*V) l.sum
 | [],_=>by simp;exact Fr.zero
 | x :: r,h=>by
  rw[List.sum_cons,bR,dI,xg];exact (h x (.head _)).add (Fr.sum λy hy=>h y (.tail _ hy))
def eC (xs ys:List Rat):Rat:=(List.zipWith (·*·) xs ys).sum
theorem Fr.dot {M N V W : Nat} {xs ys : List Rat} (h : ∀ x ∈ xs, Fr M V x) (h' : ∀ y ∈ ys, Fr N W y) : Fr (M * N) (xs.length * (V * W)) (eC xs ys) := by
  have q := Fr.sum (M := M * N) (V := V * W) (l := List.zipWith (· * ·) xs ys) λz hz => by
    obtain ⟨i, hi, e⟩ := bX hz;rw [lC] at e;rw [<- e];exact (h _ (aT _)).mul (h' _ (aT _))
  exact q.mono (aA _ (by rw [cX]; lia))
theorem A1 : ∀ {bs : List Int} {m M : Int}, 0 < m → m ∣ M → (∀ b ∈ bs, 0 < b /\ b ∣ M) → zS bs m ∣ M
  | [], _, _, _, h, _ => h
  | b :: r, m, M, hm, h, hb => by
    have b1 := hb b dC;refine A1 (bs := r) (yH hm b1.1) ?_ λc hc => hb c (b8 _ hc)
    have gp : 0 < g m b := Co (by lia);have e1 := Ci m b;have e2 := zU m b;obtain ⟨u, hu⟩ := h;obtain ⟨v, hv⟩ := b1.2
    have h3 : lo m b * u = hi m b * v := by
      apply xO (show g m b ≠ 0 by lia)
      calc lo m b * u * g m b = lo m b * g m b * u := by rw [dQ, fQ u, <- dQ]
        _ = m * u := by rw [e1]
        _ = M := hu.symm
        _ = b * v := hv
        _ = hi m b * g m b * v := by rw [e2]
        _ = hi m b * v * g m b := by rw [dQ, fQ (g m b), <- dQ]
    have h4 : hi m b ∣ lo m b * u := ⟨v, h3⟩;have h5 : hi m b ∣ u := tE (by rw [nC]; exact Cf (by lia)) h4;obtain ⟨w, hw⟩ := h5;refine ⟨w, ?_⟩;show M = m * hi m b * w
    rw [hu, hw, dQ]
theorem EY {a b:Int} {k:Nat} (hb:0 < b) (d:a∣b) (h:Sz k b):Sz k a:=h.le (ko (by lia) (gO.mpr d))
end Nm
namespace Nm
def Dr (W:Nat) (x:Rat):Prop:=x.num.natAbs<=W/\x.den<=W
def yp:List Nat->Nat
 | []=>1
 | a :: r=>a*yp r
theorem zO:∀{l:List Nat},(∀a∈l,0 < a)->0 < yp l
 | [],_=>Nat.one_pos
 | a :: r,h=>bU (h a (.head _)) (zO λb hb=>h b (.tail _ hb))
theorem zP:∀{l:List Nat} {a:Nat},a∈l->a∣yp l
 | b :: r,a,h=>by
  rcases aD.mp h with rfl | h
  ·exact JO ..
  ·exact gD (zP h) (df ..)
theorem BL {k:Nat}:∀{l:List Nat},(∀a∈l,a<=2^k)->yp l<=2^(k*l.length)
 | [],_=>by simp [yp]
 | a :: r,h=>by
  rw[bR,Nat.mul_succ,bo,b6 (2^(k*r.length))];exact aJ (h a (.head _)) (BL λb hb=>h b (.tail _ hb))
def GF (M V:Nat) (rows:LR9):Prop:=∀xs∈rows,∀x∈xs,Fr M V x
def QK (c n i:Nat) (rows:LR9):Prop:=∃M,0 < M/\M<=2^(i*(c*n+2))/\GF M (2^(20+2*i)) rows
theorem Qt {c n:Nat}:QK c n 0 []:=⟨1,by decide,by simp,λ_ h=>nomatch h⟩
theorem Qu (c n i:Nat):(i+1)*(c*n+2)=i*(c*n+2)+(c*n+2):=dI ..
theorem Oh {c n i:Nat} {rows:LR9} {xs:List Rat} (h:QK c n i rows) (hl:xs.length=n) (hd:∀x∈xs,Dr (2^c) x) (hc:c<=20):QK c n (i+1) (rows++[xs]):=by
 obtain ⟨M,h0,h1,h2⟩:=h
 have dp:0 < yp (xs.map (·.den)):=zO λa ha=>by
  obtain ⟨x,_,rfl⟩:=aH.mp ha;exact x.den_pos
 have dl:yp (xs.map (·.den))<=2^(c*n):=by
  have:=BL (k:=c) (l:=xs.map (·.den)) λa ha=>by
   obtain ⟨x,hx,rfl⟩:=aH.mp ha;exact (hd x hx).2
  rwa [ao,hl] at this
 refine ⟨M*yp (xs.map (·.den)),bU h0 dp,?_,λys hy x hx=>?_⟩
 ·rw[Qu,bo];exact aJ h1 (ai dl (au (by decide) (by lia)))
 ·rcases ay.mp hy with hy | hy
  ·exact ((h2 ys hy x hx).scale _).mono (au (by decide) (by lia))
  ·have e:ys=xs:=by simpa using hy
   subst e;have f:Fr x.den (2^c) x:=Fr.own x (hd x hx).1;have g:=(f.dvd (zP (aH.mpr ⟨x,hx,rfl⟩))).scaleL M;exact g.mono (au (by decide) (by lia))
def cW (rows:LR9) (w:Nat):LR9:=(List.range w).map λj=>rows.map λxs=>xs.getD j 0
theorem du {rows:LR9} {w:Nat}:(cW rows w).length=w:=by simp [cW]
theorem lD {rows:LR9} {w:Nat}:∀ys∈cW rows w,ys.length=rows.length:=λys hy=>by
 obtain ⟨j,_,rfl⟩:=aH.mp hy;exact ao ..
theorem getD_map {α:Type} {l:List α} {f:α->Rat} {i:Nat} (h:i < l.length):(l.map f).getD i 0=f l[i]:=by
 rw[ae,aM,af h];rfl
theorem JQ {rows:LR9} {w:Nat} (h:∀xs∈rows,xs.length=w):cW (cW rows w) rows.length=rows:=by
 apply ee
 ·exact du
 ·intro i h1 h2;have e:(cW (cW rows w) rows.length)[i]=(cW rows w).map λxs=>xs.getD i 0:=by simp [cW]
  rw[e];have hw:=h rows[i] (aT h2);apply ee
  ·rw[ao,du,hw]
  ·intro j h3 h4;rw[AK];have e2:(cW rows w)[j]'(by rw[du];lia)=rows.map λxs=>xs.getD j 0:=by simp [cW]
   rw[e2,getD_map h2,ae,af h4];rfl
end Nm
namespace L2
open PySem PySem.Spec PyProof.Rows Nm
theorem cV.sqt {K:FG9} {H H':Hp} {b a:Addr} {xs:List V} (u:cV b H H') (B:iC H b) (h:lA K H a xs):lA K H' a xs:=by
 rcases h with (h | ⟨o,h⟩) | h
 ·exact .inl (.inl (u.tup B h))
 ·exact .inl (.inr ⟨o,u.other (λz=>by obtain ⟨_,_,_,_,_,e,_⟩:=B;rw[z,e] at h;cases h) h⟩)
 ·exact .inr h
theorem Ld {K:FG9} {H:Hp} {a l:Addr} {xs ys:List V} {o:HO} (h:lA K H a xs) (hl:H l=some (.lst ys)):lA K (upd H l o) a xs:=by
 rcases h with (h | ⟨o,h⟩) | h
 ·exact .inl (.inl (by rw[bH λz=>by rw[z,hl] at h;cases h];exact h))
 ·exact .inl (.inr ⟨o,by rw[bH λz=>by rw[z,hl] at h;cases h];exact h⟩)
 ·exact .inr h
def cx (K:FG9) (H:Hp) (q:Rat) (x:V):Prop:=zj K H x (nm q)
section
variable {K:FG9} {H H':Hp} {q:Rat} {x:V} {b l p:Addr} {qs:List Rat}
theorem cx.same (h:cx K H q x) (e:aE H H'):cx K H' q x:=e.num h
theorem cx.upto (h:cx K H q x) (u:cV b H H') (B:iC H b):cx K H' q x:=by obtain ⟨p,e,s⟩:=h;exact ⟨p,e,u.sqt B s⟩
theorem cx.updL {ys:List V} {o:HO} (h:cx K H q x) (hl:H l=some (.lst ys)):cx K (upd H l o) q x:=by obtain ⟨p,e,s⟩:=h;exact ⟨p,e,Ld s hl⟩
theorem cx.mk {r:Addr} {a c:Int} (h:H r=some (.tup [.int a,.int c])) (e:(a,c)=nm q):cx K H q (.ref r):=⟨r,rfl,by rw[<- e];exact lA.of h⟩
def cw (K:FG9) (H:Hp) (p:Addr) (qs:List Rat):Prop:=∃xs,H p=some (.lst xs)/\Paired (cx K H) qs xs
theorem cw.same (h:cw K H p qs) (e:aE H H'):cw K H' p qs:=by obtain ⟨xs,g,r⟩:=h;exact ⟨xs,e _ _ g,Paired.imp' (λ_ _ z=>z.same e) r⟩
theorem cw.upto (h:cw K H p qs) (u:cV b H H') (B:iC H b) (n:p≠b):cw K H' p qs:=by obtain ⟨xs,g,r⟩:=h;exact ⟨xs,u.other n g,Paired.imp' (λ_ _ z=>z.upto u B) r⟩
theorem cw.updL {ys:List V} {o:HO} (h:cw K H p qs) (hl:H l=some (.lst ys)) (n:p≠l):cw K (upd H l o) p qs:=by obtain ⟨xs,g,r⟩:=h;exact ⟨xs,by rw[bH n];exact g,Paired.imp' (λ_ _ z=>z.updL hl) r⟩
theorem vd {α β γ:Type} {F:α->β->Prop} {f:γ->α}:∀{l:List γ} {l2:List β},Paired (λc x=>F (f c) x) l l2->Paired F (l.map f) l2
 | _,_,.nil=>.nil
 | _,_,.cons r t=>.cons r (vd t)
theorem cw.rowK (h:cw K H p qs):Fl K H p (qs.map nm):=by obtain ⟨xs,g,r⟩:=h;exact ⟨xs,g,vd (F:=λn x=>zj K H x n) r⟩
def dF (K:FG9) (H0 H:Hp) (qs:List Rat) (x:V):Prop:=∃q,x=V.ref q/\H0 q=none/\cw K H q qs
def bP (K:FG9) (H0 H:Hp) (p:Addr) (rows:LR9):Prop:=∃xs,H p=some (.lst xs)/\Paired (dF K H0 H) rows xs/\V.ref p∉xs
theorem nZ {H0:Hp} {K:FG9} {p:Addr} {rows:LR9} {ys:List V} (h:∃H2,H2 p=none/\Paired (dF K H0 H2) rows ys):V.ref p∉ys:=λhm=>by
 obtain ⟨H2,e,pr⟩:=h;obtain ⟨qs,_,q,z,_,xs,g,_⟩:=cM pr hm;cases z;rw[e] at g;cases g
variable {H0:Hp} {rows:LR9}
theorem dF.same (h:dF K H0 H qs x) (e:aE H H'):dF K H0 H' qs x:=by obtain ⟨q,a,b,c⟩:=h;exact ⟨q,a,b,c.same e⟩
theorem dF.upto (h:dF K H0 H qs x) (u:cV b H H') (B:iC H b) (nb:H0 b≠none):dF K H0 H' qs x:=by obtain ⟨q,a,c,d⟩:=h;exact ⟨q,a,c,d.upto u B λz=>nb (by rw[<- z];exact c)⟩
theorem dF.weak (h:dF K H0 H qs x) {H1:Hp} (e:aE H1 H0):dF K H1 H qs x:=by obtain ⟨q,a,b,c⟩:=h;exact ⟨q,a,e.none b,c⟩
theorem bP.same (h:bP K H0 H p rows) (e:aE H H'):bP K H0 H' p rows:=by obtain ⟨xs,g,r,n⟩:=h;exact ⟨xs,e _ _ g,Paired.imp' (λ_ _ z=>z.same e) r,n⟩
theorem bP.upto (h:bP K H0 H p rows) (u:cV b H H') (B:iC H b) (n:p≠b) (nb:H0 b≠none):bP K H0 H' p rows:=by obtain ⟨xs,g,r,nn⟩:=h;exact ⟨xs,u.other n g,Paired.imp' (λ_ _ z=>z.upto u B nb) r,nn⟩
theorem bP.weak (h:bP K H0 H p rows) {H1:Hp} (e:aE H1 H0):bP K H1 H p rows:=by obtain ⟨xs,g,r,n⟩:=h;exact ⟨xs,g,Paired.imp' (λ_ _ z=>z.weak e) r,n⟩
theorem bP.gridK (h:bP K H0 H p rows):O7 K H p (rows.map (List.map nm)):=by obtain ⟨xs,g,r,_⟩:=h;exact ⟨xs,g,vd (F:=λns x=>∃q,x=V.ref q/\Fl K H q ns) (Paired.imp' (λ_ _ ⟨q,a,_,c⟩=>⟨q,a,c.rowK⟩) r)⟩
end
def L8:Kind Rat:=RS.via nm (λ_ _ e=>Qh e) (λK H x q=>cx K H q x) id
def L7:Kind (List Rat):=RT L8
def yb:Kind (LR9):=RT L7
theorem cw.kind {K:FG9} {H:Hp} {p:Addr} {qs:List Rat} (h:cw K H p qs):L7.R K H (.ref p) qs:=by obtain ⟨xs,g,q⟩:=h;exact ⟨p,xs,rfl,bS.of g,q⟩
theorem bP.kind {K:FG9} {H0 H:Hp} {p:Addr} {rows:LR9} (h:bP K H0 H p rows):yb.R K H (.ref p) rows:=by obtain ⟨xs,g,q,_⟩:=h;exact ⟨p,xs,rfl,bS.of g,Paired.imp' (λ_ _ ⟨q,a,_,c⟩=>by rw[a];exact c.kind) q⟩
def ug (x:Rat):Prop:=Sz 4000 (nm x).1/\Sz 4000 (nm x).2
def Fits (l:List Rat):Prop:=∃M V:Nat,0 < M/\M<=2^900/\V<=2^900/\∀x∈l,Fr M V x
theorem Fits.szn {l:List Rat} (h:Fits l) {x:Rat} (hx:x∈l):ug x:=by
 obtain ⟨M,V,h0,h1,h2,h3⟩:=h;obtain ⟨a,b⟩:=(h3 x hx).sz h0 h1 h2;exact ⟨a.mono (by decide),b.mono (by decide)⟩
theorem Fits.ok {l:List Rat} (h:Fits l) {x:Rat} (hx:x∈l):AA (nm x):=⟨kI x,EO x,(h.szn hx).1.mono (by decide),(h.szn hx).2.mono (by decide)⟩
theorem Iv {M V:Nat} {x:Rat} (h0:0 < M) (h1:M<=2^1800) (h2:V<=2^1810) (h:Fr M V x):ug x:=by
 obtain ⟨a,b⟩:=h.sz h0 h1 h2;exact ⟨a.mono (by decide),b.mono (by decide)⟩
theorem K9 {x:Rat} (h:ug x):AA (nm x):=⟨kI x,EO x,h.1.mono (by decide),h.2.mono (by decide)⟩
inductive sQ (K:FG9) (f:Rat->Rat->Rat) (vs:List V) (H:Hp) (Q:VK) (E9:XK):Prop
 | mk (u v:V) (x y:Rat):vs=[u,v]->cx K H x u->cx K H y v->ug x->ug y->(∀r H',aE H H'->cx K H' (f x y) (.ref r)->Q (.ref r) H')->sQ K f vs H Q E9
section
variable {K:FG9} {vs:List V} {H:Hp} {Q:VK} {E:XK}
theorem HZ {f:Rat->Rat->Rat} {F:Int->Int->Int->Int->Int} (hf:∀x y:Rat,(f x y)*(((nm x).2*(nm y).2:Int):Rat)=((F (nm x).1 (nm x).2 (nm y).1 (nm y).2:Int):Rat)) (h:sQ K f vs H Q E):Jb K F vs H Q E:=by
 obtain ⟨u,v,x,y,rfl,⟨p,rfl,hp⟩,⟨q,rfl,hq⟩,⟨s1,s2⟩,⟨s3,s4⟩,k⟩:=h;refine ⟨p,q,_,_,_,_,rfl,hp,hq,kI x,kI y,s1,s2,s3,s4,λr H' s g=>k r H' s (cx.mk g ?_)⟩;exact tx (pS (kI x) (kI y)) (hf x y)
theorem xY (x:Rat):(((nm x).1:Int):Rat)=x*(((nm x).2:Int):Rat):=by
 show (x.num:Rat)=x*(((x.den:Nat):Int):Rat)
 rw[sZ,aU]
theorem JI (h:sQ K (λx y=>x+y) vs H Q E):Jb K O2 vs H Q E:=HZ (λx y=>by
 unfold O2;rw[CG,aW,aW,aW,xY,xY];grind) h
theorem AW (h:sQ K (λx y=>x - y) vs H Q E):Jb K Ms vs H Q E:=HZ (λx y=>by
 unfold Ms;rw[Rat.intCast_sub,aW,aW,aW,xY,xY];grind) h
theorem Ji (h:sQ K (λx y=>x*y) vs H Q E):Jb K Mr vs H Q E:=HZ (λx y=>by
 unfold Mr;rw[aW,aW,xY,xY];grind) h
end
def ID (M:Int) (ns:List (Int×Int)):Prop:=0 < M/\Sz 4400 M/\∀n∈ns,0 < n.2/\n.2∣M/\Sz 4400 n.1
theorem ID.bot {M:Int} {ns:List (Int×Int)} (h:ID M ns):0 < iJ ns/\Sz 4400 (iJ ns):=by
 have hb:∀b∈ns.map (·.2),0 < b/\b∣M:=λb hb=>by
  obtain ⟨n,hn,rfl⟩:=aH.mp hb;exact ⟨(h.2.2 n hn).1,(h.2.2 n hn).2.1⟩
 exact ⟨Ck (by decide) λb q=>(hb b q).1,EY h.1 (A1 (by decide) (Int.one_dvd _) hb) h.2.1⟩
inductive Le (K:FG9) (vs:List V) (H:Hp) (Q:VK) (E9:XK):Prop
 | mk (p:Addr) (bs:List Int) (M:Int):vs=[.ref p]->bS K H p (bs.map V.int)->0 < M->Sz 4400 M->((∀b∈bs,0 < b/\b∣M))->Q (.int (zS bs 1)) H->Le K vs H Q E9
inductive Lf (K:FG9) (vs:List V) (H:Hp) (Q:VK) (E9:XK):Prop
 | mk (p:Addr) (ns:List (Int×Int)) (M:Int):vs=[.ref p]->Fl K H p ns->ns.length<=1000->ID M ns->(∀H',aE H H'->Q (.int (iJ ns)) H')->Lf K vs H Q E9
inductive FF (K:FG9) (vs:List V) (H:Hp) (Q:VK) (E9:XK):Prop
 | mk (p:Addr) (ns:List (Int×Int)) (M:Int) (B:Int):vs=[.ref p,.int B]->Fl K H p ns->ns.length<=1000->ID M ns->0 < B->Sz 4400 B->(∀r H',H r=none->aE H H'->H' r=some (.lst ((fN ns B).map V.int))->Q (.ref r) H')->FF K vs H Q E9
theorem Fy {M:Int} {ns:List (Int×Int)} {B t:Int} (h:ID M ns) (hB:0 < B) (sB:Sz 4400 B) (ht:t∈fN ns B):Sz 8800 t:=by
 obtain ⟨n,hn,rfl⟩:=aH.mp ht;have hp:=h.2.2 n hn
 have sq:Sz 4400 (B / n.2):=sB.le (by
  rw[QR (by lia)];exact Nat.div_le_self ..)
 exact (hp.2.2.mul sq).mono (by lia)
theorem uR {x:Rat} {B:Int} (h:(nm x).2∣B):(((nm x).1*(B / (nm x).2):Int):Rat)=x*(B:Rat):=by
 obtain ⟨k,rfl⟩:=h;have hp:=kI x;rw[Int.mul_ediv_cancel_left _ (by lia),aW,aW,xY];grind
theorem GQ {B C : Int} : ∀ {xs ys : List Rat}, (∀ x ∈ xs, (nm x).2 ∣ B) → (∀ y ∈ ys, (nm y).2 ∣ C) → (((List.zipWith (· * ·) (fN (xs.map nm) B) (fN (ys.map nm) C)).sum : Int) : Rat) = eC xs ys * ((B : Rat) * (C : Rat))
  | [], ys, _, _ => by simp [fN, eC]
  | x :: xs, [], _, _ => by simp [fN, eC]
  | x :: xs, y :: ys, h1, h2 => by
    have ih := GQ (B := B) (C := C) (xs := xs) (ys := ys) (λz hz => h1 z (.tail _ hz)) (λz hz => h2 z (.tail _ hz));have e1 := uR (h1 x (.head _));have e2 := uR (h2 y (.head _));have e3 : (List.zipWith (· * ·) (fN ((x :: xs).map nm) B) (fN ((y :: ys).map nm) C)).sum = ((nm x).1 * (B / (nm x).2)) * ((nm y).1 * (C / (nm y).2)) + (List.zipWith (· * ·) (fN (xs.map nm) B) (fN (ys.map nm) C)).sum := rfl;have e4 : eC (x :: xs) (y :: ys) = x * y + eC xs ys := rfl;rw [e3, e4, CG, aW, ih, e1, e2];grind
theorem Ot {xs ys:List Rat} (h1:0 < iJ (xs.map nm)) (h2:0 < iJ (ys.map nm)):(lo (My (xs.map nm) (ys.map nm)) (iJ (xs.map nm)*iJ (ys.map nm)),hi (My (xs.map nm) (ys.map nm)) (iJ (xs.map nm)*iJ (ys.map nm)))=nm (eC xs ys):=by
 refine tx (pS h1 h2) ?_;unfold My;rw[GQ (λx hx=>vI (aH.mpr ⟨x,hx,rfl⟩)) (λx hx=>vI (aH.mpr ⟨x,hx,rfl⟩)),aW]
inductive FE (K:FG9) (vs:List V) (H:Hp) (Q:VK) (E9:XK):Prop
 | mk (p:Addr) (w:Nat) (H0:Hp) (rows:LR9):vs=[.ref p,.int w]->bP K H0 H p rows->rows.length<=1000->w<=1000->(∀xs∈rows,xs.length=w)->(∀r H',H r=none->aE H H'->bP K H H' r (cW rows w)->Q (.ref r) H')->FE K vs H Q E9
inductive Bu (K:FG9) (vs:List V) (H:Hp) (Q:VK) (E9:XK):Prop
 | mk (b:Addr) (w:Nat):vs=[.ref b,.int w]->iC H b->1<=w->w<=1000000->(∀r x H',Dr (max w 6) x->cx K H' x (.ref r)->iC H' b->cV b H H'->Q (.ref r) H')->Bu K vs H Q E9
inductive FR (K:FG9) (vs:List V) (H:Hp) (Q:VK) (E9:XK):Prop
 | mk (b:Addr) (m w:Nat):vs=[.ref b,.int m,.int w]->iC H b->m<=1000->1<=w->w<=1000000->(∀r xs H',H r=none->cw K H' r xs->xs.length=m->(∀x∈xs,Dr (max w 6) x)->iC H' b->cV b H H'->Q (.ref r) H')->FR K vs H Q E9
inductive FI (K:FG9) (vs:List V) (H:Hp) (Q:VK) (E9:XK):Prop
 | mk (p q:Addr) (xs ys:List Rat):vs=[.ref p,.ref q]->cw K H p xs->cw K H q ys->ys.length=xs.length->xs.length<=1000->(∀x∈xs,ug x)->(∀y∈ys,ug y)->(∀r H',H r=none->aE H H'->cw K H' r (List.zipWith (λx y=>x+y) xs ys)->Q (.ref r) H')->FI K vs H Q E9
inductive Lg (K:FG9) (vs:List V) (H:Hp) (Q:VK) (E9:XK):Prop
 | mk (u:V) (q:Addr) (c:Rat) (ys:List Rat):vs=[u,.ref q]->cx K H c u->ug c->cw K H q ys->ys.length<=1000->(∀y∈ys,ug y)->(∀r H',H r=none->aE H H'->cw K H' r (ys.map λy=>c*y)->Q (.ref r) H')->Lg K vs H Q E9
inductive BA (K:FG9) (vs:List V) (H:Hp) (Q:VK) (E9:XK):Prop
 | mk (p:Addr) (H0:Hp) (rows:LR9):vs=[.ref p]->bP K H0 H p rows->rows.length<=1000->(∀xs∈rows,xs.length<=1000)->(∀r H',H r=none->aE H H'->bP K H H' r rows->Q (.ref r) H')->BA K vs H Q E9
section
variable {K:FG9} {a:Addr} {xs:List V} {g:TG} {tf:TT} {te:TE} {Q:VK} {σ₀:St} {H:Hp} {α β:Type}
theorem ff {as:List α} {F:Hp->α->V->Prop} (G:Hp->β->V->Prop) (f:α->β) (hx:H a=some (.lst xs)) (pf:Paired (F H) as xs) (hl:as.length<=1000)
  (hF:∀{H H' c x},F H c x->aE H H'->F H' c x) (hG:∀{H H' c x},G H c x->aE H H'->G H' c x)
  (hs:∀(i:Nat) c x H' NY NN,as[i]?=some c->aE H H'->F H' c x->(∀y H2,aE H' H2->G H2 (f c) y->NY y H2)->uD σ₀ g tf te x H' NY NN)
  (hd:∀ys H' p,H p=none->aE H H'->H' p=some (.lst ys)->Paired (G H') (as.map f) ys->(∃H2,H2 p=none/\Paired (G H2) (as.map f) ys)->Q (.ref p) H'):uJ (MW K a) σ₀ g tf te Q H:=by
 have lx:=pf.length;refine fY (K:=K) (xs:=xs) (λi ys H'=>aE H H'/\Paired (G H') ((as.take i).map f) ys) (bc (bF (by lia))) ⟨aE.refl _,.nil⟩ (λi ys H' _ ⟨s,_⟩=>bS.of (s _ _ hx)) ?_ ?_
 ·rintro i x ys H' hx' hlen ⟨s,pr⟩;obtain ⟨c,ec,hc⟩:=cv pf hx';refine hs i c x H' _ _ ec s (hF hc s) λy H2 s2 gy=>⟨s.trans s2,?_⟩
  rw[take_snoc ec,cS];exact bW (Paired.imp' (λ_ _ z=>hG z s2) pr) (.cons gy .nil)
 ·rintro ys H' hy ⟨s,pr⟩ p hp;rw[aG (by lia)] at pr;exact hd ys _ p (s.none hp) (s.trans (aE.new hp)) aK (Paired.imp' (λ_ _ z=>hG z (aE.new hp)) pr) ⟨H',hp,pr⟩
theorem fX {n:Nat} (G:Hp->β->V->Prop) (f:Nat->β) (hl:n<=1000) (hG:∀{H H' c x},G H c x->aE H H'->G H' c x)
  (hs:∀(i:Nat) H' NY NN,i < n->aE H H'->(∀y H2,aE H' H2->G H2 (f i) y->NY y H2)->uD σ₀ g tf te (.int i) H' NY NN)
  (hd:∀ys H' p,H p=none->aE H H'->H' p=some (.lst ys)->Paired (G H') ((List.range n).map f) ys->(∃H2,H2 p=none/\Paired (G H2) ((List.range n).map f) ys)->Q (.ref p) H'):uJ (Hw 0 n) σ₀ g tf te Q H:=by
 refine tO (λi ys H'=>aE H H'/\Paired (G H') ((List.range i).map f) ys) (bc (bF (by lia))) ⟨aE.refl _,.nil⟩ ?_ ?_
 ·rintro i ys H' hi hlen ⟨s,pr⟩;rw[Bi];refine hs i H' _ _ hi s λy H2 s2 gy=>⟨s.trans s2,?_⟩
  rw[MZ,cS];exact bW (Paired.imp' (λ_ _ z=>hG z s2) pr) (.cons gy .nil)
 ·rintro ys H' hy ⟨s,pr⟩ p hp;exact hd ys _ p (s.none hp) (s.trans (aE.new hp)) aK (Paired.imp' (λ_ _ z=>hG z (aE.new hp)) pr) ⟨H',hp,pr⟩
theorem zY {n:Nat} {b:Addr} (G:Hp->β->V->Prop) (C:β->Prop) (hB:iC H b) (hl:n<=1000) (hG:∀{H' H'' c x},G H' c x->cV b H' H''->iC H' b->G H'' c x)
  (hs:∀(i:Nat) H' NY NN,i < n->cV b H H'->iC H' b->(∀y c H2,cV b H' H2->iC H2 b->C c->G H2 c y->NY y H2)->uD σ₀ g tf te (.int i) H' NY NN)
  (hd:∀ys cs H' p,H p=none->cV b H H'->iC H' b->H' p=some (.lst ys)->cs.length=n->(∀c∈cs,C c)->Paired (G H') cs ys->(∃H2,H2 p=none/\Paired (G H2) cs ys)->Q (.ref p) H'):uJ (Hw 0 n) σ₀ g tf te Q H:=by
 refine tO (λi ys H'=>cV b H H'/\iC H' b/\∃cs,cs.length=i/\(∀c∈cs,C c)/\Paired (G H') cs ys) (bc (bF (by lia))) ⟨(aE.refl _).upto,hB,[],rfl,(λ_ z=>nomatch z),.nil⟩ ?_ ?_
 ·rintro i ys H' hi hlen ⟨u,B,cs,lc,hc,pr⟩;rw[Bi];refine hs i H' _ _ hi u B λy c H2 u2 B2 cc gy=>⟨u.trans u2,B2,cs++[c],by simp [lc],Fe hc cc,bW (Paired.imp' (λ_ _ z=>hG z u2 B) pr) (.cons gy .nil)⟩
 ·rintro ys H' hy ⟨u,B,cs,lc,hc,pr⟩ p hp;have s:aE H' (upd H' p (.lst ys)):=aE.new hp;exact hd ys cs _ p (u.none B hp) (u.same s) (B.same s) aK lc hc (Paired.imp' (λ_ _ z=>hG z s.upto B) pr) ⟨H',hp,pr⟩
end
section
variable {X:Cx}
theorem eN {n:Nat} {g:TG} {tb:TS} {D:Ends} {σ:St} {H:Hp} (Pv:Nat->St->Hp->Prop) (h0:Pv 0 σ H)
  (hs:∀(i:Nat) σ H,i < n->Pv i σ H->g (.int i) σ H λσ2 H2=>tb { D with nx:=Pv (i+1),ct:=Pv (i+1),bk:=D.nx } σ2 H2) (hd:∀σ H,Pv n σ H->D.nx σ H) :
  ∃W:Nat->Nat->St->Hp->Prop,(∃m,W 0 m σ H)/\∀i m σ H,W i m σ H →
   ((Hw 0 n).stop i H/\D.nx σ H)\/((Hw 0 n).go i H/\∃N:St->Hp->Prop,(∀σ' H',N σ' H'->∃m',m' < m/\W (i+1) m' σ' H')/\∀x H',(Hw 0 n).yld i H x H'->g x σ H' λσ2 H2=>tb { D with nx:=N,ct:=N,bk:=D.nx } σ2 H2) :=
 DM (lo:=0) Pv h0 (λi σ H hi p=>by rw[Bi];exact hs i σ H hi p) hd
theorem sA:rz X (.type "int") (λxs H Q=>∃b:Bool,xs=[.bl b]/\Q (.int (if b=true then 1 else 0)) H):=by
 intro pins s σ H xs us Q I r h;obtain ⟨b,rfl,q⟩:=h;obtain ⟨u,rfl,ru⟩:=vals1 r;cases ru;exact call_int_bool ⟨.int _,H,I.tok _,⟨_,rfl⟩,q⟩
theorem C9 (K:FG9) (hK:X.K=K):rz X (.builtin "len") (λxs H Q=>∃p ys,xs=[.ref p]/\(bS K H p ys\/lA K H p ys)/\Q (.int ys.length) H):=by subst hK;exact aZ
theorem LC {st:Stmt}:PS X st (λ_ _ _=>False):=λ_ _ _ _ _ _ h=>h.elim
end
theorem LZ {t b:Int} {W:Nat} (hb:0 < b) (h1:t.natAbs<=W) (h2:b.natAbs<=W):∃q:Rat,(lo t b,hi t b)=nm q/\Dr W q/\q*(b:Rat)=(t:Rat):=by
 have hb':(b:Rat)≠0:=λz=>by have:=AG.mp z;lia
 have e:(t:Rat) / (b:Rat)*(b:Rat)=t:=Rat.div_mul_cancel hb';have h:=tx hb e;refine ⟨_,h,⟨?_,?_⟩,e⟩
 ·have:=congrArg Prod.fst h;have z:=lo_le (t:=t) (b:=b) (by lia);show ((nm ((t:Rat) / (b:Rat))).1).natAbs<=W
  rw[<- this];exact ai z h1
 ·have:=congrArg Prod.snd h;have z:=O0 (t:=t) (b:=b) (by lia);have hd:(((t:Rat) / (b:Rat)).den:Int)=hi t b:=this.symm;have hp:=EV (t:=t) hb
  lia
theorem Kt {K:FG9} {H:Hp} {qs:List Rat} {xs:List V} (h:Paired (cx K H) qs xs) {j:Nat} (hj:j < qs.length):∃v,IA xs (j:Int)=some v/\cx K H (qs.getD j 0) v:=by
 have hl:=h.length;refine ⟨xs[j]'(by lia),fF (by simp),?_⟩;have:=lS h (i:=j) hj (by lia);rwa [ae,af hj]
theorem DN {xs ys:List Rat} {i:Nat} (h1:i < xs.length) (h2:i < ys.length):eC (xs.take (i+1)) (ys.take (i+1))=eC (xs.take i) (ys.take i)+xs.getD i 0*ys.getD i 0:=by
 have e1:xs[i]?=some (xs.getD i 0):=by rw[ae,af h1];rfl
 have e2:ys[i]?=some (ys.getD i 0):=by rw[ae,af h2];rfl
 unfold eC;rw[take_snoc e1,take_snoc e2,List.zipWith_append (by simp;lia),List.sum_append];simp [xf]
theorem getD_mem {xs:List Rat} {i:Nat} (h:i < xs.length):xs.getD i 0∈xs:=by
 rw[ae,af h];exact aT h
theorem Df {xs ys:List Rat} (h:ys.length=xs.length):List.zipWith (λx y=>x+y) xs ys=(List.range xs.length).map λi=>xs.getD i 0+ys.getD i 0:=by
 apply iw;intro i;rw[b9,aM];by_cases hi:i < xs.length
 ·rw[dJ hi,af hi,af (show i < ys.length by lia)];simp [ae,af hi,af (show i < ys.length by lia)]
 ·rw[aR (show (List.range xs.length).length<=i by simp;lia),aR (show xs.length<=i by lia)];rfl
theorem dF.updL {K:FG9} {H0 H:Hp} {qs:List Rat} {x:V} {l:Addr} {ys:List V} {o:HO} (h:dF K H0 H qs x) (hl:H l=some (.lst ys)) (nl:H0 l≠none):dF K H0 (upd H l o) qs x:=by obtain ⟨q,a,b,c⟩:=h;exact ⟨q,a,b,c.updL hl λz=>nl (by rw[<- z];exact b)⟩
theorem iC.at {H:Hp} {b:Addr} (B:iC H b):H b≠none:=by obtain ⟨_,_,_,_,_,e,_⟩:=B;rw[e];simp
theorem Inner.at {H:Hp} {b q:Addr} (B:iC H b) (i:Inner H b q):H q≠none:=by
 obtain ⟨q',i',xs,e⟩:=B.inner;rw[<- Inner.inj i' i,e];simp
theorem jL {α β:Type} {F:α->β->Prop} {l1:List α} {l2:List β} {i:Nat} (h:Paired F l1 l2) (hi:i < l1.length):∃x y,l1[i]?=some x/\l2[i]?=some y/\x∈l1/\F x y:=by
 have hl:=h.length;exact ⟨l1[i],l2[i]'(by lia),by simp,by simp,aT _,lS h hi (by lia)⟩
theorem E8 {i j:Int} (h1:-(2^64) < i) (h2:i < 2^64):js i j:=.inl (.inl ⟨h1,h2⟩)
theorem JD {i j:Int} (h1:-(2^64) < j) (h2:j < 2^64):js i j:=.inl (.inr ⟨h1,h2⟩)
def QW (K : FG9) (l : Addr) : It :=
  ⟨λi H => ∃ xs x, bS K H l xs /\ xs[i]? = some x,
   λi H v H' => ∃ p x, v = .ref p /\ H p = none /\ H' = upd H p (.tup [.int i, x]) /\ ∀ xs, bS K H l xs → xs[i]? = some x,
   λi H => ∃ xs, bS K H l xs /\ xs.length ≤ i⟩
def tnE (e it l:Addr) (i:Nat) (h:Heap):Prop:=(∃old,IsEnum h e it i old)/\h.IsListIter it l i
theorem JR {P:Program} {w:World} {K:FG9} {elts:List Expr} {kk:Nat} {tpos:Pos} (e it l:Addr) (hei:e≠it):Turn P w K (.Tuple elts kk tpos) (QW K l) [e,it] e (tnE e it l) where
 mem:=by simp
 obj:=λi h st b hb=>by
  obtain ⟨⟨old,he⟩,⟨o1,g1,c1,d1⟩⟩:=st;simp only[aD,aO,or_false] at hb;rcases hb with rfl | rfl
  ·exact ⟨_,he,λv q=>nomatch q⟩
  ·exact ⟨o1,g1,λv q=>by rw[d1] at q;cases q⟩
 keep:=λi h h' st k=>by
  obtain ⟨⟨old,he⟩,h1⟩:=st;exact ⟨⟨old,k e (by simp) _ he⟩,h1.at λo q=>k it (by simp) o q⟩
 item:=by
  intro X hP hw hK hc i pins s σ H E I hf st hg;subst hP hw hK;obtain ⟨⟨old,he⟩,h1⟩:=st;obtain ⟨xs,x,qx,ex⟩:=hg;obtain ⟨us,rx,px,_⟩:=I.list qx;obtain ⟨u,eu,ru⟩:=rx.get ex;refine wpAny_pyNext_enum_item he h1 px.isList (x:=u) (by simpa using eu) hei λh' a1 a2 a3 a4 hk=>?_
  refine ⟨_,rfl,wpAny_letOwnedTupleGo_enum a1 λh'' he'' hs=>?_⟩;have hT0:H s.heap.objs.size=none:=I.hok.fresh (ak _);have ene:s.heap.objs.size≠e:=JM (Heap.lt_size he)
  have up:∀b o,b∉[e,it]->s.heap.get? b=some o->h''.get? b=some o:=λb o hb q=>by
   simp only[aD,aO,or_false,not_or] at hb;exact (hs.2 b hb.1).trans (hk b o hb.1 hb.2 q)
  have tup:h''.get? s.heap.objs.size=some { cls:=.type "tuple",data:=.seq #[.int i s.toks,u] }:=(hs.2 _ ene).trans a3;have I1:Inv X pins σ H { s with heap:=h'',toks:=s.toks+1 }:=I.moved (g':=s.gens) (d':=s.drawn) (t':=s.toks+1) (ch:=[e,it]) hf up I.bare;have fT:lZ X pins H s.heap.objs.size:=I.fpOk (ak _) hT0;have I2:=I1.track (o:=.tup [.int i,x]) fT ⟨ks rfl,[.int i s.toks,u],.cons ⟨_,rfl⟩ (.cons ru .nil),⟨_,tup,rfl,_,rfl⟩⟩;refine ⟨.ref s.heap.objs.size,_,I2,rfl,⟨_,x,rfl,hT0,rfl,λxs' q=>by rw[I.list_inj q qx];exact ex⟩,?_,λb hb=>?_⟩
  ·exact ⟨⟨_,by simpa using he''⟩,a2.at λo q=>(hs.2 _ hei.symm).trans q⟩
  ·rw[bH]
   ·exact (hf b hb).1
   ·obtain ⟨o1,g1,_⟩:=h1;simp only[aD,aO,or_false] at hb;rcases hb with rfl | rfl
    ·exact ene.symm
    ·exact cb (Heap.lt_size g1)
 done:=by
  intro X hP hw hK hc i pins s σ H E I hf st hg;subst hP hw hK;obtain ⟨⟨old,he⟩,h1⟩:=st;obtain ⟨xs,qx,hend⟩:=hg;obtain ⟨us,rx,px,_⟩:=I.list qx;have lx:=rx.length;refine wpAny_pyNext_enum_end (I.ok.hd hc) he h1 px.isList (by simp;lia) λh' hk=>⟨rfl,?_⟩
  exact I.moved (g':=s.gens) (d':=s.drawn) (t':=s.toks) (ch:=[e,it]) hf (λb o hb q=>hk b o (λz=>hb (by simp [z])) q) I.bare
 self:=λ_ _ _ _ _ st h=>let ⟨⟨_,he⟩,_⟩:=st;wpAny_pyIter_enum he h
section
variable {X:Cx}
def OZ (K:FG9) (ta:TA):TI:=λσ H R=>ta σ H λvs H1=>∃l,vs=[.ref l]/\(∃xs,bS K H1 l xs)/\R (QW K l) H1
theorem N7 {a:Expr} {ta:TA} {p pos tpos:Pos} {elts:List Expr} {kk:Nat} (hg:Gl X "enumerate") (hm:X.mg "enumerate"=none) (ha:PA X [a] ta) (hs:starEach [a] X.env=[(false,eval a X.env)]:=by rfl) :
  PI X (.Tuple elts kk tpos) (.Call (.Name "enumerate" p) [a] [] pos) (OZ X.K ta):=by
 intro pins s σ H R I h;refine Call_ (lV I hg hm boot_enumerate (PyProof.Rows.callWith_type1 (fR (ha pos pins s σ H _ I h) λus s1 ⟨vs,H1,I1,r1,q1⟩=>?_) (by rw[hs];rfl) rfl));obtain ⟨l,e,⟨xs,qx⟩,q⟩:=q1;subst e;obtain ⟨u,rfl,ru⟩:=vals1 r1;cases ru;obtain ⟨us,rx,px,_⟩:=I1.list qx;refine call_enumerate_list px.isList λh' a1 a2 a3 hk=>wpAny_pyIter_enum a1 ?_
 have I2:Inv X pins σ H1 { s1 with heap:=h' }:=I1.kept (t':=s1.toks) hk;refine ⟨_,[s1.heap.objs.size+1,s1.heap.objs.size],_,_,H1,rfl,I2,JR (s1.heap.objs.size+1) s1.heap.objs.size l (Nat.succ_ne_self _),⟨⟨_,a1⟩,a2⟩,λb hb=>?_,q⟩
 have hb':s1.heap.objs.size<=b:=by
  simp only[aD,aO,or_false] at hb;rcases hb with rfl | rfl <;> first | exact uL _ | exact ak _
 exact I1.fpOk hb' (I1.hok.fresh hb')
end
theorem Lx {K:FG9} {ta:TA} {R:It->Hp->Prop} {σ:St} {H:Hp} (h:ta σ H λvs H1=>∃l,vs=[.ref l]/\(∃xs,bS K H1 l xs)/\R (QW K l) H1):OZ K ta σ H R:=h
theorem Mp {K:FG9} {l:Addr} {xs:List V} {g:TG} {tb:TS} {D:Ends} {σ:St} {H:Hp} (Pv:Nat->St->Hp->Prop) (h0:Pv 0 σ H) (hl:∀i σ H,i<=xs.length->Pv i σ H->bS K H l xs)
  (hs:∀i x σ H p,xs[i]?=some x->Pv i σ H->H p=none->g (.ref p) σ (upd H p (.tup [.int i,x])) λσ2 H2=>tb { D with nx:=Pv (i+1),ct:=Pv (i+1),bk:=D.nx } σ2 H2) (hd:∀σ H,Pv xs.length σ H->D.nx σ H) :
  ∃W:Nat->Nat->St->Hp->Prop,(∃m,W 0 m σ H)/\∀i m σ H,W i m σ H →
   ((QW K l).stop i H/\D.nx σ H)\/((QW K l).go i H/\∃N:St->Hp->Prop,(∀σ' H',N σ' H'->∃m',m' < m/\W (i+1) m' σ' H')/\∀x H',(QW K l).yld i H x H'->g x σ H' λσ2 H2=>tb { D with nx:=N,ct:=N,bk:=D.nx } σ2 H2):=by
 refine ⟨λi m σ H=>m=xs.length - i/\i<=xs.length/\Pv i σ H,⟨xs.length,by simp,bx _,h0⟩,?_⟩;rintro i m σ H ⟨rfl,hi,p⟩;have q1:=hl i σ H hi p;by_cases hlt:i < xs.length
 ·refine .inr ⟨⟨xs,xs[i],q1,by simp [hlt]⟩,Pv (i+1),λσ' H' p'=>⟨xs.length - (i+1),by lia,rfl,hlt,p'⟩,λx H' y=>?_⟩;obtain ⟨r,x',rfl,hr,rfl,e1⟩:=y;exact hs i x' σ _ r (e1 xs q1) p hr
 ·have e:i=xs.length:=by lia
  subst e;exact .inl ⟨⟨xs,q1,ak _⟩,hd σ H p⟩
section
variable {X:Cx}
theorem Jg (K:FG9) {e:Expr} {f:Str} {pos:Pos} {ta:TE} (he:PE X e ta) (hb:attributeBase e f X.env (eval e X.env)=eval e X.env) (hK:X.K=K:=by rfl):PE X (.Attribute e f pos) (Ph K ta f):=by subst hK;exact kF he hb
end
theorem PX {K:FG9} {ta:TE} {f:Str} {σ:St} {H:Hp} {Q:VK} (h:ta σ H λx H1=>∃a C dx fs v,x=.ref a/\H1 a=some (.ins C dx fs)/\KR K C/\kU K C f/\fs.lookup f=some v/\Q v H1):Ph K ta f σ H Q:=h
theorem NB {K:FG9} {ta tv:TE} {f:Str} {D:Ends} {σ:St} {H:Hp} (h:tv σ H λy H1=>ta σ H1 λx H2=>∃a C dx fs,x=.ref a/\H2 a=some (.ins C dx fs)/\KR K C/\kU K C f/\fs.length < 1000 /\
 D.nx σ (upd H2 a (.ins C dx (cz f y fs)))):Ry K ta tv f D σ H:=h
theorem NG {C:Addr} {m:Str} {sp:Sp} {E:XK} {ta:TE} {t:TA} {σ:St} {H:Hp} {Q:VK} (h:ta σ H λx H1=>∃a dx fs,x=.ref a/\H1 a=some (.ins C dx fs)/\fs.lookup m=none /\
 t σ H1 λvs H2=>sp (x :: vs) H2 Q E):OK C m sp [] E ta t σ H Q:=by
 have e:(λ(x:V) H1=>∃a dx fs,x=.ref a/\H1 a=some (.ins C dx fs)/\fs.lookup m=none/\t σ H1 λvs H2=>sp (x :: (vs++[])) H2 Q E)=λx H1=>∃a dx fs,x=.ref a/\H1 a=some (.ins C dx fs)/\fs.lookup m=none/\t σ H1 λvs H2=>sp (x :: vs) H2 Q E:=by
  funext x H1;simp only[oY]
 show ta σ H (λ(x:V) H1=>∃a dx fs,x=.ref a/\H1 a=some (.ins C dx fs)/\fs.lookup m=none/\t σ H1 λvs H2=>sp (x :: (vs++[])) H2 Q E)
 rw[e];exact h
theorem NH {C:Addr} {sp:Sp} {E:XK} {t:TA} {σ:St} {H:Hp} {Q:VK} (h:t σ H λvs H1=>∀x dx,H1 x=none->H1 dx=none->dx≠x →
 sp (.ref x :: vs) (upd (upd H1 dx (.own x)) x (.ins C dx [])) (λv H2=>v=.non/\Q (.ref x) H2) E):OL C sp [] E t σ H Q:=by
 have e:(λvs (H1:Hp)=>∀x dx,H1 x=none->H1 dx=none->dx≠x->sp (.ref x :: (vs++[])) (upd (upd H1 dx (.own x)) x (.ins C dx [])) (λv H2=>v=.non/\Q (.ref x) H2) E)=λvs H1=>∀x dx,H1 x=none->H1 dx=none->dx≠x->sp (.ref x :: vs) (upd (upd H1 dx (.own x)) x (.ins C dx [])) (λv H2=>v=.non/\Q (.ref x) H2) E:=by
  funext vs H1;simp only[oY]
 show t σ H (λvs (H1:Hp)=>∀x dx,H1 x=none->H1 dx=none->dx≠x->sp (.ref x :: (vs++[])) (upd (upd H1 dx (.own x)) x (.ins C dx [])) (λv H2=>v=.non/\Q (.ref x) H2) E)
 rw[e];exact h
def Fq (x:Addr) (H H':Hp):Prop:=∀b o,H b=some o->b≠x->H' b=some o
theorem Fq.upd {x:Addr} {H:Hp} {o:HO}:Fq x H (L2.upd H x o):=λb u h n=>by rw[bH n];exact h
def xK (H:Hp) (x:Addr):Prop:=∃C dx fs,H x=some (.ins C dx fs)
section
variable {K:FG9} {H H' H0:Hp} {q:Rat} {v:V} {x p:Addr} {qs:List Rat} {rows:LR9}
theorem cx.exc (h:cx K H q v) (e:Fq x H H') (hx:xK H x):cx K H' q v:=by
 obtain ⟨C,dx,fs,hx⟩:=hx;obtain ⟨r,er,s⟩:=h;refine ⟨r,er,?_⟩;rcases s with (h | ⟨o,h⟩) | h
 ·exact .inl (.inl (e _ _ h λz=>by rw[z,hx] at h;cases h))
 ·exact .inl (.inr ⟨o,e _ _ h λz=>by rw[z,hx] at h;cases h⟩)
 ·exact .inr h
theorem cw.exc (h:cw K H p qs) (e:Fq x H H') (hx:xK H x):cw K H' p qs:=by
 obtain ⟨xs,g,r⟩:=h;have hx':=hx;obtain ⟨C,dx,fs,hx⟩:=hx;exact ⟨xs,e _ _ g (λz=>by rw[z,hx] at g;cases g),Paired.imp' (λ_ _ z=>z.exc e hx') r⟩
theorem dF.exc (h:dF K H0 H qs v) (e:Fq x H H') (hx:xK H x):dF K H0 H' qs v:=by obtain ⟨q,a,b,c⟩:=h;exact ⟨q,a,b,c.exc e hx⟩
theorem bP.exc (h:bP K H0 H p rows) (e:Fq x H H') (hx:xK H x):bP K H0 H' p rows:=by
 obtain ⟨xs,g,r,n⟩:=h;have hx':=hx;obtain ⟨C,dx,fs,hx⟩:=hx;exact ⟨xs,e _ _ g (λz=>by rw[z,hx] at g;cases g),Paired.imp' (λ_ _ z=>z.exc e hx') r,n⟩
end
def uE (a b c:Addr) (n i o:Nat):List (Str×V):=cz "outs" (.int o) (cz "look" (.ref c) (cz "ins" (.int i) (cz "put" (.ref b) (cz "states" (.int n) (cz "move" (.ref a) [])))))
section
variable {a b c:Addr} {n i o:Nat}
theorem IS:(uE a b c n i o).lookup ("ins":Str)=some (.int i):=by
 unfold uE;rw[bM,if_neg (by decide +kernel),bM,if_neg (by decide +kernel),bM,if_pos rfl]
theorem Eg:(uE a b c n i o).lookup ("put":Str)=some (.ref b):=by
 unfold uE;rw[bM,if_neg (by decide +kernel),bM,if_neg (by decide +kernel),bM,if_neg (by decide +kernel),bM,if_pos rfl]
theorem xP:(uE a b c n i o).lookup ("states":Str)=some (.int n):=by
 unfold uE;rw[bM,if_neg (by decide +kernel),bM,if_neg (by decide +kernel),bM,if_neg (by decide +kernel),bM,if_neg (by decide +kernel),bM,if_pos rfl]
theorem FD:(uE a b c n i o).lookup ("move":Str)=some (.ref a):=by
 unfold uE;rw[bM,if_neg (by decide +kernel),bM,if_neg (by decide +kernel),bM,if_neg (by decide +kernel),bM,if_neg (by decide +kernel),bM,if_neg (by decide +kernel),bM,if_pos rfl]
theorem Pk {m:Str} (h1:¬m="outs") (h2:¬m="look") (h3:¬m="ins") (h4:¬m="put") (h5:¬m="states") (h6:¬m="move"):(uE a b c n i o).lookup m=none:=by
 unfold uE;rw[bM,if_neg h1,bM,if_neg h2,bM,if_neg h3,bM,if_neg h4,bM,if_neg h5,bM,if_neg h6];rfl
theorem JT:(uE a b c n i o).lookup ("moved":Str)=none:=Pk (by decide +kernel) (by decide +kernel) (by decide +kernel) (by decide +kernel) (by decide +kernel) (by decide +kernel)
end
theorem eP {k:Str} {v:V}:∀{l:List (Str×V)},(cz k v l).length<=l.length+1
 | []=>ak _
 | (x,y) :: r=>by
  unfold cz
  split
  ·simp
  ·have:=eP (k:=k) (v:=v) (l:=r);simp only[bR]
   lia
structure fM (mv pt lk:LR9):Prop where
 n8:mv.length<=8
 i4:pt.length<=4
 o4:lk.length<=4
 mw:∀xs∈mv,xs.length=mv.length
 pw:∀xs∈pt,xs.length=mv.length
 lw:∀xs∈lk,xs.length=mv.length
def D7 (mv pt lk:LR9):Prop:=∃M V:Nat,0 < M/\M<=2^800/\V<=2^400/\GF M V mv/\GF M V pt/\GF M V lk
def nX (K:FG9) (H0 H:Hp) (C p:Addr) (mv pt lk:LR9):Prop:=∃dx a b c,H p=some (.ins C dx (uE a b c mv.length pt.length lk.length))/\H0 a=none/\H0 b=none/\H0 c=none/\bP K H0 H a mv/\bP K H0 H b pt/\bP K H0 H c lk
section
variable {K:FG9} {H H' H0 H1:Hp} {C p b:Addr} {mv pt lk:LR9}
theorem nX.same (h:nX K H0 H C p mv pt lk) (e:aE H H'):nX K H0 H' C p mv pt lk:=by obtain ⟨dx,a,b,c,g,n1,n2,n3,g1,g2,g3⟩:=h;exact ⟨dx,a,b,c,e _ _ g,n1,n2,n3,g1.same e,g2.same e,g3.same e⟩
theorem nX.upto (h:nX K H0 H C p mv pt lk) (u:cV b H H') (B:iC H b) (nb:H0 b≠none):nX K H0 H' C p mv pt lk:=by
 obtain ⟨dx,a,b',c,g,n1,n2,n3,g1,g2,g3⟩:=h;refine ⟨dx,a,b',c,u.other (λz=>by obtain ⟨_,_,_,_,_,e,_⟩:=B;rw[z,e] at g;cases g) g,n1,n2,n3,g1.upto u B (λz=>nb (by rw[<- z];exact n1)) nb,g2.upto u B (λz=>nb (by rw[<- z];exact n2)) nb,g3.upto u B (λz=>nb (by rw[<- z];exact n3)) nb⟩
theorem nX.weak (h:nX K H0 H C p mv pt lk) (e:aE H1 H0):nX K H1 H C p mv pt lk:=by obtain ⟨dx,a,b,c,g,n1,n2,n3,g1,g2,g3⟩:=h;exact ⟨dx,a,b,c,g,e.none n1,e.none n2,e.none n3,g1.weak e,g2.weak e,g3.weak e⟩
theorem D7.fits (h:D7 mv pt lk) {l:List Rat} (hl:∀x∈l,(∃xs∈mv,x∈xs)\/(∃xs∈pt,x∈xs)\/(∃xs∈lk,x∈xs)\/x=0):Fits l:=by
 obtain ⟨M,V,h0,h1,h2,h3,h4,h5⟩:=h;refine ⟨M,V,h0,ai h1 (au (by decide) (by decide)),ai h2 (au (by decide) (by decide)),λx hx=>?_⟩;rcases hl x hx with ⟨xs,a,b⟩ | ⟨xs,a,b⟩ | ⟨xs,a,b⟩ | rfl
 ·exact h3 xs a x b
 ·exact h4 xs a x b
 ·exact h5 xs a x b
 ·exact Fr.zero
end
def JU:Sp:=λvs H Q _=>∃i:Int,vs=[.int i]/\Q (.bl true) H
def JX (K:FG9):Sp:=λvs H Q _=>∃x n,vs=[x]/\zj K H x n/\AA n/\∀H',aE H H'->Q (.bl true) H'
inductive IV (vs:List V) (H:Hp) (Q:VK) (E9:XK):Prop
 | mk (p:Addr) (xs:List V) (a m:Int):vs=[.ref p,.int a,.int m]->H p=some (.lst xs)->(xs.length:Int)<=m->Q .non H->IV  vs H Q E9
inductive Ja (K:FG9) (vs:List V) (H:Hp) (Q:VK) (E9:XK):Prop
 | mk (p:Addr) (H0:Hp) (rows:LR9) (w:Nat):vs=[.ref p,.int w]->bP K H0 H p rows->rows.length<=1000->w<=1000->((∀xs∈rows,xs.length=w/\∀x∈xs,AA (nm x)))->(∀r H',H r=none->aE H H'->bP K H H' r rows->Q (.ref r) H')->Ja K vs H Q E9
def QX (rows:LR9):Prop:=∀xs∈rows,∀x∈xs,AA (nm x)
inductive IX (K:FG9) (C:Addr) (vs:List V) (H:Hp) (Q:VK) (E9:XK):Prop
 | mk (x dx p q r:Addr) (Hb H0 H1 H2:Hp) (mv pt lk:LR9):vs=[.ref x,.ref p,.ref q,.ref r]->Hb x=none->Hb dx=none->dx≠x->H=upd (upd Hb dx (.own x)) x (.ins C dx [])->bP K H0 Hb p mv->bP K H1 Hb q pt->bP K H2 Hb r lk->fM mv pt lk->QX mv->QX pt->QX lk->(∀H',aE Hb H'->nX K Hb H' C x mv pt lk->Q .non H')->IX K C vs H Q E9
def ie (mv pt:LR9) (st pu:List Rat):List Rat:=List.zipWith (λline col=>eC (line++col) (st++pu)) mv (cW pt mv.length)
theorem D7.ok {mv pt lk:LR9} (h:D7 mv pt lk):QX mv/\QX pt/\QX lk :=
 ⟨λxs hx x hx'=>(h.fits (l:=xs) λy hy=>.inl ⟨xs,hx,hy⟩).ok hx',λxs hx x hx'=>(h.fits (l:=xs) λy hy=>.inr (.inl ⟨xs,hx,hy⟩)).ok hx',λxs hx x hx'=>(h.fits (l:=xs) λy hy=>.inr (.inr (.inl ⟨xs,hx,hy⟩))).ok hx'⟩
def fO (K:FG9) (A:Addr->Prop) (H:Hp) (n:Nat) (C:Rat->Prop) (x:V):Prop:=∃q qs,x=V.ref q/\A q/\cw K H q qs/\qs.length=n/\∀y∈qs,C y
section
variable {K:FG9} {A A':Addr->Prop} {H H' H0:Hp} {n:Nat} {C C':Rat->Prop} {x v:V} {q b l p:Addr} {xs zs:List V} {y:Rat} {o:HO}
theorem fO.same (h:fO K A H n C x) (e:aE H H'):fO K A H' n C x:=by obtain ⟨q,qs,a,c,r,z⟩:=h;exact ⟨q,qs,a,c,r.same e,z⟩
theorem fO.upto (h:fO K A H n C x) (u:cV b H H') (B:iC H b) (nb:¬A b):fO K A H' n C x:=by obtain ⟨q,qs,a,c,r,z⟩:=h;exact ⟨q,qs,a,c,r.upto u B (λe=>nb (by rw[<- e];exact c)),z⟩
theorem fO.other (h:fO K A H n C x) (hl:H l=some (.lst zs)) (nl:¬A l):fO K A (upd H l o) n C x:=by obtain ⟨q,qs,a,c,r,z⟩:=h;exact ⟨q,qs,a,c,r.updL hl (λe=>nl (by rw[<- e];exact c)),z⟩
theorem fO.weak (h:fO K A H n C x) (w:∀q,A q->A' q) (wc:∀y,C y->C' y):fO K A' H n C' x:=by obtain ⟨q,qs,a,c,r,l,z⟩:=h;exact ⟨q,qs,a,w q c,r,l,λy hy=>wc y (z y hy)⟩
theorem xS {α β:Type} {F:α->β->Prop} {a:α} {b:β} (h:F a b):∀{l1:List α} {l2:List β} (j:Nat),Paired F l1 l2->Paired F (l1.set j a) (l2.set j b)
 | _,_,_,.nil=>.nil
 | _,_,0,.cons _ t=>.cons h t
 | _,_,j+1,.cons r t=>.cons r (xS h j t)
theorem fO.put (h:fO K A H n C x) (hq:H q=some (.lst zs)) (hv:cx K H y v) (hc:C y) (j:Nat):fO K A (upd H q (.lst (zs.set j v))) n C x:=by
 obtain ⟨q1,qs,rfl,a,⟨zs1,g1,pr⟩,l1,c1⟩:=h;by_cases e:q1=q
 ·subst e;rw[hq] at g1;cases g1;refine ⟨q1,qs.set j y,rfl,a,⟨_,aK,xS (hv.updL hq) j (Paired.imp' (λ_ _ z=>z.updL hq) pr)⟩,by rw[dY];exact l1,λz hz=>?_⟩;rcases cm hz with hz | rfl
  ·exact c1 z hz
  ·exact hc
 ·exact ⟨q1,qs,rfl,a,⟨zs1,by rw[bH e];exact g1,Paired.imp' (λ_ _ z=>z.updL hq) pr⟩,l1,c1⟩
theorem fO.at (h:fO K A H n C x):∃q zs qs,x=V.ref q/\A q/\H q=some (.lst zs)/\zs.length=n/\Paired (cx K H) qs zs/\qs.length=n/\∀y∈qs,C y:=by obtain ⟨q,qs,a,c,⟨zs,g,pr⟩,l,z⟩:=h;exact ⟨q,zs,qs,a,c,g,by rw[<- pr.length];exact l,pr,l,z⟩
end
theorem vE {W:Nat} {i:Int} (h:i.natAbs<=W) (hW:1<=W):Dr W (i:Rat):=⟨h,hW⟩
def Sk (K:FG9) (A:Addr->Prop) (H:Hp) (n:Nat) (C:Rat->Prop) (p:Addr) (m:Nat):Prop:=∃us,H p=some (.lst us)/\us.length=m/\¬A p/\∀x∈us,fO K A H n C x
structure Ht (A:Addr->Prop) (m p l b q0:Addr):Prop where
 am:¬A m
 ap:¬A p
 al:¬A l
 ab:¬A b
 aq:¬A q0
 mb:m≠b
 pb:p≠b
 lb:l≠b
 mp:m≠p
 ml:m≠l
 mq:m≠q0
theorem Ju {M:Nat} {z:Int} (h:z.natAbs<=2):Fr 1 2 (z:Rat):=Fr.int h
theorem EW {M W:Nat} {a c:Rat} {z:Int} (hz:z.natAbs<=2) (ha:Fr M W a) (hc:Fr M W c):Fr M (3*W) (a+(z:Rat)*c):=by
 have h:=(Ju (M:=M) hz).mul hc;rw[uK] at h;exact (ha.add h).mono (by lia)
theorem Ef {z:Int} (h:z.natAbs<=1000):ug (z:Rat):=Iv (M:=1) (V:=1000) (by decide) (jG) (ai (show 1000<=2^10 by decide) (au (by decide) (by decide))) (Fr.int h)
theorem Bo {M W:Nat} {c:Rat} {z:Int} (hz:z.natAbs<=2) (hc:Fr M W c) (h0:0 < M) (h1:M<=2^800) (hW:W<=2^140):ug ((z:Rat)*c):=by
 have h:=(Ju (M:=M) hz).mul hc;rw[uK] at h;refine Iv h0 (ai h1 (au (by decide) (by decide))) (ai (aF 2 hW) ?_) h;rw[show 2*2^140=2^141 by rw[eK,b6]];exact au (by decide) (by decide)
def jr (A:Addr->Prop) (b m:Addr) (H H':Hp):Prop:=∀c u,H c=some u->c≠b->¬A c->c≠m->H' c=some u
theorem jr.same {A:Addr->Prop} {b m:Addr} {H H1 H2:Hp} (h:jr A b m H H1) (s:aE H1 H2):jr A b m H H2:=λc u e n1 n2 n3=>s _ _ (h c u e n1 n2 n3)
theorem jr.upto {A:Addr->Prop} {b m:Addr} {H H1 H2:Hp} (h:jr A b m H H1) (s:cV b H1 H2):jr A b m H H2:=λc u e n1 n2 n3=>s.1 _ _ (h c u e n1 n2 n3) n1
theorem jr.upd {A:Addr->Prop} {b m q:Addr} {H H1:Hp} {o:HO} (h:jr A b m H H1) (hq:A q\/q=m):jr A b m H (L2.upd H1 q o):=λc u e n1 n2 n3=>by
 rw[bH]
 ·exact h c u e n1 n2 n3
 ·rintro rfl;rcases hq with hq | hq
  ·exact n2 hq
  ·exact n3 hq
theorem jr.new {A:Addr->Prop} {b m r:Addr} {H H1:Hp} (h:jr A b m H H1) (hA:∀q,H q=none->A q) (B:iC H1 b) (hm:H1 m≠none) (hr:H1 r=none):A r:=by
 by_cases z:A r
 ·exact z
 ·cases e:H r with
  | none=>exact hA r e
  | some u =>
   have:=h r u e (λy=>B.at (by rw[<- y];exact hr)) z (λy=>hm (by rw[<- y];exact hr));rw[hr] at this;cases this
structure JL (K:FG9) (A:Addr->Prop) (n:Nat) (C:Rat->Prop) (r p b q0:Addr) (us:List V) (H0 H:Hp):Prop where
 gr:H r=some (.lst us)
 ru:∀x∈us,fO K A H n C x
 rp:fO K A H n C (.ref p)
 bag:iC H b
 inn:Inner H b q0
 up:cV b H0 H
section
variable {K:FG9} {A:Addr->Prop} {n:Nat} {C:Rat->Prop} {r p b q0:Addr} {us:List V} {H0 H H':Hp} {y:Rat} {v:V}
theorem JL.same (h:JL K A n C r p b q0 us H0 H) (e:aE H H'):JL K A n C r p b q0 us H0 H':=⟨e _ _ h.gr,λx hx=>(h.ru x hx).same e,h.rp.same e,h.bag.same e,(e.upto (p:=b)).2 _ h.inn,h.up.same e⟩
theorem JL.upto (h:JL K A n C r p b q0 us H0 H) (u:cV b H H') (B:iC H' b) (nb:¬A b) (rb:r≠b):JL K A n C r p b q0 us H0 H':=⟨u.other rb h.gr,λx hx=>(h.ru x hx).upto u h.bag nb,h.rp.upto u h.bag nb,B,u.2 _ h.inn,h.up.trans u⟩
theorem JL.put (h:JL K A n C r p b q0 us H0 H) (ap:A p) (nr:¬A r) (nb:¬A b) (nq:¬A q0) (hp:H0 p=none) (hv:cx K H y v) (hc:C y) (j:Nat):∃zs,H p=some (.lst zs)/\zs.length=n/\JL K A n C r p b q0 us H0 (upd H p (.lst (zs.set j v))):=by
 obtain ⟨q,zs,qs,e,a,g,l,_⟩:=h.rp.at;cases e;have ne:∀{z},¬A z->z≠p:=λh e=>h (by rw[e];exact ap)
 exact ⟨zs,g,l,by rw[bH (ne nr)];exact h.gr,λx hx=>(h.ru x hx).put g hv hc j,h.rp.put g hv hc j,h.bag.upd h.inn (ne nb).symm (ne nq).symm,h.inn.upd (ne nb).symm,h.up.after hp⟩
end
theorem BH {K:FG9} {A:Addr->Prop} {H:Hp} {n:Nat} {C:Rat->Prop} {us:List V} (h:∀x∈us,fO K A H n C x):∃rows:LR9,Paired (λqs x=>∃q,x=V.ref q/\A q/\cw K H q qs) rows us/\rows.length=us.length/\∀qs∈rows,qs.length=n/\∀y∈qs,C y:=by
 induction us with
 | nil=>exact ⟨[],.nil,rfl,λ_ z=>nomatch z⟩
 | cons u us ih =>
  obtain ⟨rows,pr,l,hr⟩:=ih λx hx=>h x (.tail _ hx)
  obtain ⟨q,qs,e,a,r,l1,c⟩:=h u (.head _);refine ⟨qs :: rows,.cons ⟨q,e,a,r⟩ pr,by simp [l],λzs hz=>?_⟩;rcases aD.mp hz with rfl | hz
  ·exact ⟨l1,c⟩
  ·exact hr zs hz
theorem HN {K:FG9} {A:Addr->Prop} {H:Hp} {n:Nat} {C:Rat->Prop} {us:List V} {rows:LR9} (pr:Paired (λqs x=>∃q,x=V.ref q/\A q/\cw K H q qs) rows us) (h:∀qs∈rows,qs.length=n/\∀y∈qs,C y):∀x∈us,fO K A H n C x:=λx hx=>by
 obtain ⟨qs,hq,q,e,a,r⟩:=cM pr hx;exact ⟨q,qs,e,a,r,(h qs hq).1,(h qs hq).2⟩
theorem wA {n:Nat}:∀{rows:LR9},(∀xs∈rows,xs.length=n)->rows.flatten.length=rows.length*n
 | [],_=>by simp
 | xs :: rows,h=>by
  rw[iu,av,h xs (.head _),wA λys hy=>h ys (.tail _ hy),bR,dI,xg]
theorem Nx {c n:Nat} {rows:LR9} (h:∀qs∈rows,qs.length=n/\∀y∈qs,Dr (2^c) y):∃M:Nat,0 < M/\M<=2^(c*(rows.length*n))/\∀qs∈rows,∀y∈qs,Fr M (2^c) y:=by
 have fl:rows.flatten.length=rows.length*n:=wA λys hy=>(h ys hy).1
 have hm:∀a∈rows.flatten.map (·.den),0 < a/\a<=2^c:=λa ha=>by
  obtain ⟨y,hy,rfl⟩:=aH.mp ha;obtain ⟨qs,hq,hy⟩:=ju.mp hy;exact ⟨y.den_pos,((h qs hq).2 y hy).2⟩
 refine ⟨yp (rows.flatten.map (·.den)),zO λa ha=>(hm a ha).1,?_,λqs hq y hy=>?_⟩
 ·have:=BL (k:=c) (l:=rows.flatten.map (·.den)) λa ha=>(hm a ha).2
  rwa [ao,fl] at this
 ·exact (Fr.own y ((h qs hq).2 y hy).1).dvd (zP (aH.mpr ⟨y,ju.mpr ⟨qs,hq,hy⟩,rfl⟩))
theorem lW {K:FG9} {A:Addr->Prop} {H H0:Hp} {n m:Nat} {C:Rat->Prop} {p:Addr} (h:Sk K A H n C p m) (w:∀q,A q->H0 q=none):∃rows,bP K H0 H p rows/\rows.length=m/\∀qs∈rows,qs.length=n/\∀y∈qs,C y:=by
 obtain ⟨us,g,l,a,r⟩:=h;obtain ⟨rows,pr,lr,hr⟩:=BH r;refine ⟨rows,⟨us,g,Paired.imp' (λ_ _ ⟨q,e,aq,rq⟩=>⟨q,e,w q aq,rq⟩) pr,λhm=>?_⟩,by rw[lr,l],hr⟩;obtain ⟨q,_,e,aq,_⟩:=r _ hm;cases e;exact a aq
theorem jr.trans {A:Addr->Prop} {b m:Addr} {H H1 H2:Hp} (h:jr A b m H H1) (h':jr A b m H1 H2):jr A b m H H2:=λc u e n1 n2 n3=>h' c u (h c u e n1 n2 n3) n1 n2 n3
theorem Lo {K:FG9} {A:Addr->Prop} {H0 H:Hp} {n:Nat} {C:Rat->Prop} {us:List V} {rows:LR9} (pr:Paired (dF K H0 H) rows us) (h:∀qs∈rows,qs.length=n/\∀y∈qs,C y) (w:∀q,V.ref q∈us->H0 q=none->H q≠none->A q):∀x∈us,fO K A H n C x:=λx hx=>by
 obtain ⟨qs,hq,q,e,a,r⟩:=cM pr hx;subst e;exact ⟨q,qs,rfl,w q hx a (by obtain ⟨_,g,_⟩:=r;rw[g];simp),r,(h qs hq).1,(h qs hq).2⟩
def JV:Sp:=λvs H Q _=>∃b,vs=[.ref b]/\iC H b/\∀r (n i o w:Nat) H',H' r=some (.tup [.int n,.int i,.int o,.int w])->n<=5->i<=4->o<=4->(w=4\/w=9\/(w=1000000/\n<=2))->(n=5->i<=2/\o<=2)->iC H' b->cV b H H'->Q (.ref r) H'
def eO (K:FG9) (H0 H:Hp) (r:Addr) (mv pt lk:LR9):Prop:=∃m p l,H r=some (.tup [.ref m,.ref p,.ref l])/\H0 m=none/\H0 p=none/\H0 l=none/\bP K H0 H m mv/\bP K H0 H p pt/\bP K H0 H l lk
section
variable {K:FG9} {H H' H0 H1:Hp} {r b:Addr} {mv pt lk:LR9}
theorem eO.same (h:eO K H0 H r mv pt lk) (e:aE H H'):eO K H0 H' r mv pt lk:=by obtain ⟨m,p,l,g,n1,n2,n3,g1,g2,g3⟩:=h;exact ⟨m,p,l,e _ _ g,n1,n2,n3,g1.same e,g2.same e,g3.same e⟩
theorem eO.upto (h:eO K H0 H r mv pt lk) (u:cV b H H') (B:iC H b) (nb:H0 b≠none):eO K H0 H' r mv pt lk:=by
 obtain ⟨m,p,l,g,n1,n2,n3,g1,g2,g3⟩:=h;exact ⟨m,p,l,u.tup B g,n1,n2,n3,g1.upto u B (λz=>nb (by rw[<- z];exact n1)) nb,g2.upto u B (λz=>nb (by rw[<- z];exact n2)) nb,g3.upto u B (λz=>nb (by rw[<- z];exact n3)) nb⟩
theorem eO.weak (h:eO K H0 H r mv pt lk) (e:∀q,H0 q=none->H1 q=none):eO K H1 H r mv pt lk:=by
 obtain ⟨m,p,l,g,n1,n2,n3,⟨x1,y1,z1,w1⟩,⟨x2,y2,z2,w2⟩,⟨x3,y3,z3,w3⟩⟩:=h;exact ⟨m,p,l,g,e _ n1,e _ n2,e _ n3,⟨x1,y1,Paired.imp' (λ_ _ ⟨q,a,b,c⟩=>⟨q,a,e _ b,c⟩) z1,w1⟩,⟨x2,y2,Paired.imp' (λ_ _ ⟨q,a,b,c⟩=>⟨q,a,e _ b,c⟩) z2,w2⟩,⟨x3,y3,Paired.imp' (λ_ _ ⟨q,a,b,c⟩=>⟨q,a,e _ b,c⟩) z3,w3⟩⟩
end
inductive Bq (K:FG9) (C:Addr) (vs:List V) (H:Hp) (Q:VK) (E9:XK):Prop
 | mk (r:Addr) (H0:Hp) (mv pt lk:LR9):vs=[.ref r]->eO K H0 H r mv pt lk->fM mv pt lk->D7 mv pt lk->(∀x H',H x=none->aE H H'->nX K H H' C x mv pt lk->Q (.ref x) H')->Bq K C vs H Q E9
def nextK (mv pt:LR9) (st pu:List Rat) (k:Nat):List Rat:=List.zipWith (λline col=>eC (line++col.take k) (st++pu.take k)) mv (cW pt mv.length)
theorem kb {mv pt:LR9} {st pu:List Rat} {k:Nat}:(nextK mv pt st pu k).length=mv.length:=by unfold nextK;rw[cX,du];lia
theorem wo {mv pt:LR9} {st pu:List Rat} {k:Nat} (h1:pt.length<=k) (h2:pu.length<=k):nextK mv pt st pu k=ie mv pt st pu:=by
 unfold nextK ie;apply iw;intro i;rw[b9,b9];cases e1:mv[i]? with
 | none=>rfl
 | some line =>
  cases e2:(cW pt mv.length)[i]? with
  | none=>rfl
  | some col =>
   have:=lD col (aw e2);show some _=some _
   rw[aG (by lia),aG h2]
theorem IP {rows:LR9} {w i:Nat} (h:i < w):(cW rows w)[i]?=some (rows.map λxs=>xs.getD i 0):=by
 unfold cW;rw[aM,dJ h];rfl
theorem Ig {mv pt:LR9} {st pu:List Rat}:nextK mv pt st pu 0=mv.map λxs=>eC xs st:=by
 unfold nextK;apply iw;intro i;rw[b9,aM];by_cases hi:i < mv.length
 ·rw[IP hi,af hi];simp
 ·rw[aR (by lia)];rfl
theorem BY {mv pt:LR9} {st pu:List Rat} {k i:Nat} (hi:i < mv.length):(nextK mv pt st pu k).getD i 0=eC (mv[i]++(pt.map λxs=>xs.getD i 0).take k) (st++pu.take k):=by
 rw[ae];unfold nextK;rw[b9,af hi,IP hi];rfl
theorem vF {as bs xs ys:List Rat} (h:as.length=xs.length):eC (as++bs) (xs++ys)=eC as xs+eC bs ys:=by
 unfold eC;rw[List.zipWith_append h,List.sum_append]
theorem Ih {mv pt:LR9} {st pu:List Rat} {k:Nat} (hm:∀xs∈mv,xs.length=st.length) (h1:k < pt.length) (h2:k < pu.length) (hw:(pt[k]).length=mv.length) :
  List.zipWith (λx y=>x+y) (nextK mv pt st pu k) ((pt[k]).map λy=>pu[k]*y)=nextK mv pt st pu (k+1):=by
 have l1:((pt[k]).map λy=>pu[k]*y).length=mv.length:=by rw[ao,hw]
 rw[Df (by rw[l1,kb])];apply iw;intro i;rw[aM,kb];by_cases hi:i < mv.length
 ·have e0:(nextK mv pt st pu (k+1))[i]?=some ((nextK mv pt st pu (k+1)).getD i 0):=by
   rw[ae,af (by rw[kb];exact hi)];rfl
  rw[dJ hi,e0,BY hi];have ll:=hm mv[i] (aT hi);have ec:(pt.map λxs=>xs.getD i 0)[k]?=some ((pt[k]).getD i 0):=by rw[aM,af h1];rfl
  have ep:pu[k]?=some pu[k]:=af h2
  have e3:((pt[k]).map λy=>pu[k]*y).getD i 0=pu[k]*(pt[k]).getD i 0:=by
   rw[getD_map (by rw[hw];exact hi),ae,af (by rw[hw];exact hi)];rfl
  show some ((nextK mv pt st pu k).getD i 0+((pt[k]).map λy=>pu[k]*y).getD i 0)=some _
  rw[BY hi,e3,take_snoc ec,take_snoc ep,vF ll,vF ll,vF (by rw[cT,cT,ao];lia)];have:eC [(pt[k]).getD i 0] [pu[k]]=(pt[k]).getD i 0*pu[k]:=by simp [eC,xf]
  rw[this];congr 1;grind
 ·rw[aR (by simpa using hi),aR (by rw[kb];lia)];rfl
theorem nX.weakN {K:FG9} {H H0 H1:Hp} {C p:Addr} {mv pt lk:LR9} (h:nX K H0 H C p mv pt lk) (e:∀q,H0 q=none->H1 q=none):nX K H1 H C p mv pt lk:=by
 obtain ⟨dx,a,b,c,g,n1,n2,n3,⟨x1,y1,z1,w1⟩,⟨x2,y2,z2,w2⟩,⟨x3,y3,z3,w3⟩⟩:=h;exact ⟨dx,a,b,c,g,e _ n1,e _ n2,e _ n3,⟨x1,y1,Paired.imp' (λ_ _ ⟨q,a,b,c⟩=>⟨q,a,e _ b,c⟩) z1,w1⟩,⟨x2,y2,Paired.imp' (λ_ _ ⟨q,a,b,c⟩=>⟨q,a,e _ b,c⟩) z2,w2⟩,⟨x3,y3,Paired.imp' (λ_ _ ⟨q,a,b,c⟩=>⟨q,a,e _ b,c⟩) z3,w3⟩⟩
theorem Ko {mv pt:LR9} {st pu:List Rat}:(ie mv pt st pu).length=mv.length:=by unfold ie;rw[cX,du];lia
def sE (k j:Nat) (l:List Rat):Prop:=∃M V:Nat,0 < M/\M<=2^k/\V<=2^j/\∀x∈l,Fr M V x
theorem Oi {M V:Nat} {x:Rat} (h0:0 < M) (h1:M<=2^2000) (h2:V<=2^1950) (h:Fr M V x):ug x:=by
 obtain ⟨a,b⟩:=h.sz h0 h1 h2;exact ⟨a.mono (by decide),b.mono (by decide)⟩
section
variable {k j k' j':Nat} {l xs ys:List Rat} {x y:Rat}
theorem sE.szn (h:sE k j l) (hx:x∈l) (hk:k+j<=3950:=by decide):ug x:=by
 obtain ⟨M,V,h0,h1,h2,h3⟩:=h;obtain ⟨a,b⟩:=(h3 x hx).sz h0 h1 h2;exact ⟨a.mono (by lia),b.mono (by lia)⟩
theorem sE.rowM (h:sE k j l) (hk:k+j<=4200:=by decide):∃M,ID M (l.map nm):=by
 obtain ⟨M,V,h0,h1,h2,h3⟩:=h;refine ⟨M,by lia,?_,λn hn=>?_⟩
 ·show ((M:Nat):Int).natAbs < 2^4400
  rw[cg];exact bJ h1 (d7 (by decide) (by lia))
 ·obtain ⟨x,hx,rfl⟩:=aH.mp hn;obtain ⟨a,_⟩:=(h3 x hx).sz h0 h1 h2;exact ⟨kI x,(h3 x hx).den,a.mono (by lia)⟩
theorem sE.one (h:sE k j l) (hx:x∈l):sE k j [x]:=by
 obtain ⟨M,V,h0,h1,h2,h3⟩:=h;exact ⟨M,V,h0,h1,h2,λy hy=>by rw[bN.mp hy];exact h3 x hx⟩
theorem Mx (h:sE k j xs) (h':sE k' j' ys) (hl:xs.length<=1000) (i:Nat) (hk:(k+k')+(j+j')<=3930:=by decide):ug (eC (xs.take i) (ys.take i)):=by
 obtain ⟨M,V,h0,h1,h2,h3⟩:=h;obtain ⟨N,W,k0,k1,k2,k3⟩:=h'
 have e:1000*(V*W)<=2^(10+(j+j')):=by
  rw[bo 2 10];exact aJ (by decide) (ai (aJ h2 k2) (by rw[<- bo];exact ak _))
 obtain ⟨a,b⟩:=((Fr.dot (λx hx=>h3 x (cA hx)) (λy hy=>k3 y (cA hy))).mono (aA _ (show (xs.take i).length<=1000 by rw[cT];lia))).sz (bU h0 k0) (ai (aJ h1 k1) (by rw[<- bo];exact ak _)) e;exact ⟨a.mono (by lia),b.mono (by lia)⟩
theorem LQ (hx:sE k j [x]) (hy:sE k' j' [y]) (hk:(k+k')+(j+j')<=3930:=by decide):ug (x*y):=by
 obtain ⟨M,V,h0,h1,h2,h3⟩:=hx;obtain ⟨N,W,k0,k1,k2,k3⟩:=hy;obtain ⟨a,b⟩:=((h3 x (.head _)).mul (k3 y (.head _))).sz (bU h0 k0) (ai (aJ h1 k1) (by rw[<- bo];exact ak _)) (ai (aJ h2 k2) (by rw[<- bo];exact ak _));exact ⟨a.mono (by lia),b.mono (by lia)⟩
def Ab (xs ys:List Rat):Prop:=∃k j k' j':Nat,sE k j xs/\sE k' j' ys/\(k+k')+(j+j')<=3930
theorem Ab.sys (h:sE 400 120 xs) (h':sE 1500 1800 ys):Ab xs ys:=⟨_,_,_,_,h,h',by decide⟩
end
def KI (mv pt lk:LR9):Prop:=∃M V:Nat,0 < M/\M<=2^400/\V<=2^120/\GF M V mv/\GF M V pt/\GF M V lk
section
variable {mv pt lk:LR9}
theorem KI.fits (h:KI mv pt lk) {l:List Rat} (hl:∀x∈l,(∃xs∈mv,x∈xs)\/(∃xs∈pt,x∈xs)\/(∃xs∈lk,x∈xs)\/x=0):sE 400 120 l:=by
 obtain ⟨M,V,h0,h1,h2,g1,g2,g3⟩:=h;refine ⟨M,V,h0,h1,h2,λx hx=>?_⟩;rcases hl x hx with ⟨xs,a,b⟩ | ⟨xs,a,b⟩ | ⟨xs,a,b⟩ | rfl
 ·exact g1 xs a x b
 ·exact g2 xs a x b
 ·exact g3 xs a x b
 ·exact Fr.zero
theorem KI.sf (h:KI mv pt lk):D7 mv pt lk:=by obtain ⟨M,V,a,b,c,d⟩:=h;exact ⟨M,V,a,ai b (au (by decide) (by decide)),ai c (au (by decide) (by decide)),d⟩
end
inductive Ej (K:FG9) (vs:List V) (H:Hp) (Q:VK) (E9:XK):Prop
 | mk (p q:Addr) (xs ys:List Rat):vs=[.ref p,.ref q]->cw K H p xs->cw K H q ys->ys.length=xs.length->xs.length<=1000->Ab xs ys->(∀r H',aE H H'->cx K H' (eC xs ys) (.ref r)->Q (.ref r) H')->Ej K vs H Q E9
inductive Ei (K:FG9) (vs:List V) (H:Hp) (Q:VK) (E9:XK):Prop
 | mk (p q:Addr) (H0:Hp) (rows:LR9) (ys:List Rat):vs=[.ref p,.ref q]->bP K H0 H p rows->cw K H q ys->rows.length<=1000->ys.length<=1000->((∀xs∈rows,xs.length=ys.length/\Ab xs ys))->(∀r H',H r=none->aE H H'->cw K H' r (rows.map λxs=>eC xs ys)->Q (.ref r) H')->Ei K vs H Q E9
inductive Dt (K:FG9) (C:Addr) (vs:List V) (H:Hp) (Q:VK) (E9:XK):Prop
 | mk (x p q:Addr) (H0:Hp) (mv pt lk:LR9) (st pu:List Rat):vs=[.ref x,.ref p,.ref q]->nX K H0 H C x mv pt lk->fM mv pt lk->KI mv pt lk->cw K H p st->cw K H q pu->st.length=mv.length->pu.length=pt.length->sE 1500 1800 (st++pu)->(∀r H',H r=none->aE H H'->cw K H' r (ie mv pt st pu)->Q (.ref r) H')->Dt K C vs H Q E9
def sP (mv pt:LR9) (st:List Rat) (pus:LR9) (k:Nat):List Rat:=(pus.take k).foldl (ie mv pt) st
def qI (mv pt:LR9) (st:List Rat) (pus:LR9):LR9:=(List.range (pus.length+1)).map (sP mv pt st pus)
section
variable {mv pt lk pus:LR9} {st:List Rat} {k:Nat}
theorem uW {pu:List Rat} (h:pus[k]?=some pu):sP mv pt st pus (k+1)=ie mv pt (sP mv pt st pus k) pu:=by
 unfold sP;rw[take_snoc h,List.foldl_append];rfl
theorem sO (h:st.length=mv.length):∀{k:Nat},k<=pus.length->(sP mv pt st pus k).length=mv.length
 | 0,_=>h
 | k+1,hk=>by rw[uW (af (show k < pus.length by lia)),Ko]
theorem yc:(qI mv pt st pus).length=pus.length+1:=by unfold qI;rw[ao,cE]
theorem wK (h:k<=pus.length):(qI mv pt st pus)[k]?=some (sP mv pt st pus k):=by
 unfold qI;rw[aM,dJ (by lia)];rfl
def Hv (mv pt:LR9) (st:List Rat) (pus:LR9):Prop:=∀k,k<=pus.length->∃N W:Nat,0 < N/\N<=2^1500/\W<=2^1800/\(∀x∈sP mv pt st pus k,Fr N W x)/\∀xs∈pus,∀x∈xs,Fr N W x
theorem Hv.both (h:Hv mv pt st pus) (hk:k<=pus.length) {pu:List Rat} (hp:pu∈pus):sE 1500 1800 (sP mv pt st pus k++pu):=by
 obtain ⟨N,W,a,b,c,d,e⟩:=h k hk;exact ⟨N,W,a,b,c,λx hx=>(ay.mp hx).elim (d x) (e pu hp x)⟩
theorem Hv.state (h:Hv mv pt st pus) (hk:k<=pus.length):sE 1500 1800 (sP mv pt st pus k):=by
 obtain ⟨N,W,a,b,c,d,e⟩:=h k hk;exact ⟨N,W,a,b,c,d⟩
end
def z8 (K:FG9) (H:Hp) (l:Addr) (H':Hp) (xs:List Rat) (x:V):Prop:=∃q,x=.ref q/\H q=none/\q≠l/\cw K H' q xs
section
variable {K:FG9} {H H' H2:Hp} {l:Addr} {xs:List Rat} {x:V}
theorem z8.same (h:z8 K H l H' xs x) (e:aE H' H2):z8 K H l H2 xs x:=by obtain ⟨q,a,b,c,d⟩:=h;exact ⟨q,a,b,c,d.same e⟩
theorem z8.upd {ys:List V} {o:HO} (h:z8 K H l H' xs x) (hl:H' l=some (.lst ys)):z8 K H l (upd H' l o) xs x:=by obtain ⟨q,a,b,c,d⟩:=h;exact ⟨q,a,b,c,d.updL hl c⟩
theorem z8.rowF (h:z8 K H l H' xs x):dF K H H' xs x:=by obtain ⟨q,a,b,_,d⟩:=h;exact ⟨q,a,b,d⟩
theorem J5 {o:HO} (e:aE H H') (n:H l=none):aE H (upd H' l o):=λb u h=>by
 rw[bH (λz=>by rw[z,n] at h;cases h)];exact e b u h
theorem BI:∀{rows:LR9} {ys:List V},Paired (z8 K H l H') rows ys->V.ref l∉ys
 | _,_,.nil=>by simp
 | _,_,.cons ⟨q,a,_,c,_⟩ r=>by
  intro hm;rcases aD.mp hm with e | hm
  ·rw[a] at e;cases e;exact c rfl
  ·exact BI r hm
end
inductive By (K:FG9) (C:Addr) (vs:List V) (H:Hp) (Q:VK) (E9:XK):Prop
 | mk (x s p:Addr) (H0 H1:Hp) (mv pt lk pus:LR9) (st:List Rat):vs=[.ref x,.ref s,.ref p]->nX K H0 H C x mv pt lk->fM mv pt lk->KI mv pt lk->cw K H s st->st.length=mv.length->bP K H1 H p pus->pus.length<=100->(∀xs∈pus,xs.length=pt.length)->Hv mv pt st pus->(∀r H',H r=none->aE H H'->bP K H H' r (qI mv pt st pus)->Q (.ref r) H')->By K C vs H Q E9
theorem KA {c:Nat} {l:List Rat} (h:∀x∈l,Dr (2^c) x) (hc:c<=20):∃B:Nat,0 < B/\B<=2^(c*l.length+2)/\∀x∈l,Fr B (2^22) x:=by
 obtain ⟨M,h0,h1,h2⟩:=Oh (c:=c) (n:=l.length) (i:=0) (rows:=[]) Qt rfl h hc;refine ⟨M,h0,?_,h2 l (by simp)⟩;rw[Nat.zero_add,uK] at h1;exact h1
theorem GK {i:Nat}:∀{pus:LR9},(∀xs∈pus,xs.length=i)->pus.flatten.length=pus.length*i
 | [],_=>by simp
 | x :: r,h=>by
  rw[iu,av,h x (.head _),GK (λxs hx=>h xs (.tail _ hx)),bR,dI]
  lia
theorem Rt {i:Int} (h:i=0\/i=1):Fr 1 1 (i:Rat):=Fr.int (by rcases h with rfl | rfl <;> decide)
theorem xl {α β:Type} {F:α->β->Prop}:∀{l1:List α} {l2:List β} (_:Paired F l1 l2) (k:Nat),Paired F (l1.drop k) (l2.drop k)
 | _,_,h,0=>h
 | _,_,.nil,_+1=>.nil
 | _,_,.cons _ r,k+1=>xl r k
theorem Ou {xs:List V} {t n:Nat} (h:t+n<=xs.length):xi xs (some (t:Int)) (some ((t:Int)+(n:Int)))=(xs.drop t).take n:=by
 unfold xi;rw[show ((t:Int)+(n:Int))=((t+n:Nat):Int) by lia,HT.AX,HT.AX,uP (show t<=xs.length by lia),uP h,Sq]
end L2
namespace L2
abbrev iM:=Nat->Rat
def CJ (F:List iM->Rat) (r:Nat):List iM->List iM->Rat->Rat
 | _,[],_=>0
 | pre,v :: post,s=>s*v r*F (pre++post)+CJ F r (pre++[v]) post (-s)
def kf:List Nat->List iM->Rat
 | [],[]=>1
 | [],_ :: _=>0
 | r :: rs,vs=>CJ (λws=>kf rs ws) r [] vs 1
theorem E2 {a b:List iM} {x:iM}:kf [] (a++x :: b)=0:=by
 cases a <;> rfl
theorem ER {F:List iM->Rat} {r:Nat} {f g h:iM} {x y:Rat} (hF:∀a b,F (a++h :: b)=x*F (a++f :: b)+y*F (a++g :: b)):∀(b p q:List iM) (s:Rat),CJ F r (p++h :: q) b s=x*CJ F r (p++f :: q) b s+y*CJ F r (p++g :: q) b s
 | [],p,q,s=>by simp only[CJ,rA,xf]
 | v :: b,p,q,s=>by
  have i1:=hF p (q++b);have i2:=ER (r:=r) hF b p (q++[v]) (-s);simp only[CJ,cF,fj] at i1 i2 ⊢;rw[i1,i2];grind
theorem Jm {F:List iM->Rat} {r:Nat} {f g h:iM} {x y:Rat} (hF:∀a b,F (a++h :: b)=x*F (a++f :: b)+y*F (a++g :: b)) (hr:h r=x*f r+y*g r):∀(a pre b:List iM) (s:Rat),CJ F r pre (a++h :: b) s=x*CJ F r pre (a++f :: b) s+y*CJ F r pre (a++g :: b) s
 | [],pre,b,s=>by
  have i2:=ER (r:=r) hF b pre [] (-s);simp only[CJ,cY] at i2 ⊢;rw[i2,hr];grind
 | v :: a,pre,b,s=>by
  have i1:=hF (pre++a) b;have i2:=Jm hF hr a (pre++[v]) b (-s);simp only[CJ,cF,fj] at i1 i2 ⊢;rw[i1,i2];grind
theorem vD {f g h:iM} {x y:Rat}:∀{rs:List Nat},(∀r∈rs,h r=x*f r+y*g r)->∀a b,kf rs (a++h :: b)=x*kf rs (a++f :: b)+y*kf rs (a++g :: b)
 | [],_,a,b=>by rw[E2,E2,E2];grind
 | r :: rs,hr,a,b=>Jm (λa b=>vD (λr' h'=>hr r' (.tail _ h')) a b) (hr r (.head _)) a [] b 1
theorem Mv {f h:iM} {rs:List Nat} (hr:∀r∈rs,h r=f r) (a b:List iM):kf rs (a++h :: b)=kf rs (a++f :: b):=by
 rw[vD (f:=f) (g:=f) (x:=1) (y:=0) (λr h'=>by rw[hr r h'];grind) a b];grind
theorem Jx {h:iM} {rs:List Nat} (hr:∀r∈rs,h r=0) (a b:List iM):kf rs (a++h :: b)=0:=by
 rw[vD (f:=h) (g:=h) (x:=0) (y:=0) (λr h'=>by rw[hr r h'];grind) a b];grind
theorem Jn {F:List iM->Rat} {r:Nat} {x:iM} (hF:∀a b,F (a++x :: x :: b)=0):∀(b p q:List iM) (s:Rat),CJ F r (p++x :: x :: q) b s=0
 | [],p,q,s=>rfl
 | v :: b,p,q,s=>by
  have i1:=hF p (q++b);have i2:=Jn (r:=r) hF b p (q++[v]) (-s);simp only[CJ,cF,fj] at i1 i2 ⊢;rw[i1,i2];grind
theorem Jo {F:List iM->Rat} {r:Nat} {x:iM} (hF:∀a b,F (a++x :: x :: b)=0):∀(a pre b:List iM) (s:Rat),CJ F r pre (a++x :: x :: b) s=0
 | [],pre,b,s=>by
  have i2:=Jn (r:=r) hF b pre [] (- -s);simp only[CJ,cY,cF,fj] at i2 ⊢;rw[i2];grind
 | v :: a,pre,b,s=>by
  have i1:=hF (pre++a) b;have i2:=Jo (r:=r) hF a (pre++[v]) b (-s);simp only[CJ,cF,fj] at i1 i2 ⊢;rw[i1,i2];grind
theorem Cr {x:iM}:∀{rs:List Nat} (a b:List iM),kf rs (a++x :: x :: b)=0
 | [],a,b=>E2
 | r :: rs,a,b=>Jo (λa b=>Cr a b) a [] b 1
theorem Oo {x y:iM} {rs:List Nat} (a b:List iM):kf rs (a++x :: y :: b)=- kf rs (a++y :: x :: b):=by
 have hr:∀r∈rs,(λr=>1*x r+1*y r) r=1*x r+1*y r:=λ_ _=>rfl
 have h0:=Cr (x:=λr=>1*x r+1*y r) (rs:=rs) a b;have h1:=vD hr a ((λr=>1*x r+1*y r) :: b);have h2:=vD hr (a++[x]) b;have h3:=vD hr (a++[y]) b;have h4:=Cr (x:=x) (rs:=rs) a b;have h5:=Cr (x:=y) (rs:=rs) a b;simp only[cF,fj,cY] at h0 h1 h2 h3 h4 h5;rw[h1,h2,h3,h4,h5] at h0;grind
theorem E4 {x:iM} {rs:List Nat}:∀(b a c:List iM),kf rs (a++x :: (b++x :: c))=0
 | [],a,c=>Cr a c
 | y :: b,a,c=>by
  have:=E4 (x:=x) (rs:=rs) b (a++[y]) c;simp only[cF,fj,cY] at this;rw[fj,Oo,this];rfl
def b7:Nat->(Nat->Rat)->Rat
 | 0,_=>0
 | k+1,f=>b7 k f+f k
theorem bE {f g:Nat->Rat}:∀{k:Nat},(∀j,j < k->f j=g j)->b7 k f=b7 k g
 | 0,_=>rfl
 | k+1,h=>by
  show b7 k f+f k=b7 k g+g k
  rw[bE λj hj=>h j (by lia),h k (by lia)]
theorem uV {f g:Nat->Rat}:∀{k:Nat},b7 k (λj=>f j+g j)=b7 k f+b7 k g
 | 0=>by show (0:Rat)=0+0;grind
 | k+1=>by
  show b7 k (λj=>f j+g j)+_=(b7 k f+f k)+(b7 k g+g k)
  rw[uV];grind
theorem dM {f:Nat->Rat} {c:Rat}:∀{k:Nat},b7 k (λj=>c*f j)=c*b7 k f
 | 0=>by show (0:Rat)=c*0;grind
 | k+1=>by
  show b7 k (λj=>c*f j)+_=c*(b7 k f+f k)
  rw[dM];grind
theorem dZ {f:Nat->Rat}:∀{k:Nat},(∀j,j < k->f j=0)->b7 k f=0
 | 0,_=>rfl
 | k+1,h=>by
  show b7 k f+f k=0
  rw[dZ λj hj=>h j (by lia),h k (by lia)];grind
theorem jv {f:Nat->Rat} {i:Nat}:∀{k:Nat},i < k->(∀j,j < k->j≠i->f j=0)->b7 k f=f i
 | k+1,hi,h=>by
  show b7 k f+f k=f i
  by_cases e:i=k
  ·subst e;rw[dZ λj hj=>h j (by lia) (by lia)];grind
  ·rw[jv (by lia) λj hj=>h j (by lia),h k (by lia) (λz=>e z.symm)];grind
theorem lE {f:Nat->Nat->Rat} {m:Nat}:∀{k:Nat},b7 k (λi=>b7 m (f i))=b7 m (λj=>b7 k λi=>f i j)
 | 0=>(dZ λ_ _=>rfl).symm
 | k+1=>by
  show b7 k (λi=>b7 m (f i))+b7 m (f k)=b7 m (λj=>b7 k (λi=>f i j)+f k j)
  rw[lE,uV]
theorem EZ {rs:List Nat} {W:iM} {v:Nat->iM} {c:Nat->Rat} (a b:List iM):∀{k:Nat} {W:iM},(∀r∈rs,W r=b7 k λj=>c j*v j r)->kf rs (a++W :: b)=b7 k λj=>c j*kf rs (a++v j :: b)
 | 0,W,h=>Jx h a b
 | k+1,W,h=>by
  rw[vD (f:=λr=>b7 k λj=>c j*v j r) (g:=v k) (x:=1) (y:=c k) (λr hr=>by rw[h r hr];show b7 k _+_=_;grind) a b,EZ a b (k:=k) (W:=λr=>b7 k λj=>c j*v j r) λr _=>rfl];show _=b7 k _+_
  grind
end L2
namespace L2
open Nm
def pB (f:Nat->Nat):Nat->List Nat
 | 0=>[]
 | k+1=>f k :: pB f k
def jx (v:Nat->iM):Nat->List iM
 | 0=>[]
 | k+1=>v k :: jx v k
def Iy (v:Nat->iM) (i:Nat):Nat->List iM
 | 0=>[]
 | k+1=>if k<=i then [] else v k :: Iy v i k
theorem xR {f:Nat->Nat}:∀{k:Nat},(pB f k).length=k
 | 0=>rfl
 | k+1=>by show (pB f k).length+1=_;rw[xR]
theorem cw_len {v:Nat->iM}:∀{k:Nat},(jx v k).length=k
 | 0=>rfl
 | k+1=>by show (jx v k).length+1=_;rw[cw_len]
theorem pG {f:Nat->Nat} {r:Nat}:∀{k:Nat},r∈pB f k->∃t,t < k/\r=f t
 | k+1,h=>by
  rcases aD.mp h with h | h
  ·exact ⟨k,by lia,h⟩
  ·obtain ⟨t,a,b⟩:=pG h;exact ⟨t,by lia,b⟩
theorem Gf {f g:Nat->Nat}:∀{k:Nat},(∀j,j < k->f j=g j)->pB f k=pB g k
 | 0,_=>rfl
 | k+1,h=>by
  show f k :: pB f k=g k :: pB g k
  rw[h k (by lia),Gf λj hj=>h j (by lia)]
theorem cw_congr {f g:Nat->iM}:∀{k:Nat},(∀j,j < k->f j=g j)->jx f k=jx g k
 | 0,_=>rfl
 | k+1,h=>by
  show f k :: jx f k=g k :: jx g k
  rw[h k (by lia),cw_congr λj hj=>h j (by lia)]
theorem cw_mem {v:Nat->iM} {j:Nat}:∀{k:Nat},j < k->v j∈jx v k
 | k+1,h=>by
  by_cases e:j=k
  ·subst e;exact .head _
  ·exact .tail _ (cw_mem (by lia))
theorem cw_in {v:Nat->iM} {x:iM}:∀{k:Nat},x∈jx v k->∃t,t < k/\x=v t
 | k+1,h=>by
  rcases aD.mp h with h | h
  ·exact ⟨k,by lia,h⟩
  ·obtain ⟨t,a,b⟩:=cw_in h;exact ⟨t,by lia,b⟩
theorem MC {v:Nat->iM} {i j:Nat} (h1:i < j):∀{k:Nat},j < k->v j∈Iy v i k
 | k+1,h=>by
  show v j∈if k<=i then [] else v k :: Iy v i k
  rw[if_neg (by lia)];by_cases e:j=k
  ·subst e;exact .head _
  ·exact .tail _ (MC h1 (by lia))
theorem GR {v:Nat->iM} {i:Nat} {x:iM}:∀{k:Nat},x∈Iy v i k->∃t,t < k/\x=v t
 | k+1,h=>by
  have h:x∈if k<=i then [] else v k :: Iy v i k:=h
  split at h
  ·cases h
  ·rcases aD.mp h with h | h
   ·exact ⟨k,by lia,h⟩
   ·obtain ⟨t,a,b⟩:=GR h;exact ⟨t,by lia,b⟩
theorem cw_split {v:Nat->iM} {i:Nat}:∀{k:Nat},i < k->jx v k=Iy v i k++v i :: jx v i
 | k+1,h=>by
  show v k :: jx v k=(if k<=i then [] else v k :: Iy v i k)++_
  by_cases e:i=k
  ·subst e;rw[if_pos (ak _)];rfl
  ·rw[if_neg (by lia),cw_split (k:=k) (i:=i) (by lia)];rfl
theorem zX {rs:List Nat} {v:Nat->iM} {c:Nat->Rat} {W:iM} {k i:Nat} (hi:i < k) (hW:∀r∈rs,W r=b7 k λj=>c j*v j r):kf rs (Iy v i k++W :: jx v i)=c i*kf rs (jx v k):=by
 rw[EZ (v:=v) (c:=c) (W:=W) _ _ hW,jv hi λj hj ne=>?_,cw_split hi];rcases cN j i with h | h
 ·obtain ⟨s,t,e⟩:=HC (cw_mem (v:=v) h);rw[e,E4];grind
 ·obtain ⟨s,t,e⟩:=HC (MC (v:=v) (show i < j by lia) hj);have:=E4 (x:=v j) (rs:=rs) t s (jx v i);rw[e,cF,fj,this];grind
theorem Qy {rs:List Nat} {v:Nat->iM} {c:Nat->Rat} {W:iM} {k:Nat} (hW:∀r∈rs,W r=b7 k λj=>c j*v j r):kf rs (W :: jx v k)=0:=by
 have:=EZ (v:=v) (c:=c) (W:=W) [] (jx v k) hW;rw[cY] at this;rw[this];refine dZ λj hj=>?_
 obtain ⟨s,t,e⟩:=HC (cw_mem (v:=v) hj);have:=E4 (x:=v j) (rs:=rs) s [] t;rw[cY] at this;rw[e,cY,this];grind
theorem Kz {rs:List Nat} {v:Nat->iM} {c:Nat->Rat} {W:iM} {k i:Nat} {s:Rat} (hi:i∉rs) (h1:W i=b7 k (λj=>c j*v j i)+s) (hW:∀r∈rs,W r=b7 k λj=>c j*v j r):kf (i :: rs) (W :: jx v k)=s*kf rs (jx v k):=by
 have e:=vD (rs:=i :: rs) (h:=W) (f:=λr=>b7 k λj=>c j*v j r) (g:=λr=>if r=i then 1 else 0) (x:=1) (y:=s) (λr hr=>by
  rcases aD.mp hr with rfl | hr
  ·rw[h1,if_pos rfl];grind
  ·rw[hW r hr,if_neg (λz=>hi (by rw[<- z];exact hr))];grind) [] (jx v k)
 rw[cY,cY,cY,Qy (c:=c) λr _=>rfl] at e
 have e2:kf (i :: rs) ((λr=>if r=i then (1:Rat) else 0) :: jx v k)=kf rs (jx v k):=by
  show 1*(if i=i then (1:Rat) else 0)*kf rs ([]++jx v k)+CJ (λws=>kf rs ws) i ([]++[λr=>if r=i then (1:Rat) else 0]) (jx v k) (-1)=_
  have hF:∀a b,(λws=>kf rs ws) (a++(λr=>if r=i then (1:Rat) else 0) :: b)=0*(λws=>kf rs ws) (a++(λr=>if r=i then (1:Rat) else 0) :: b)+0*(λws=>kf rs ws) (a++(λr=>if r=i then (1:Rat) else 0) :: b):=λa b=>by
   have:=Jx (h:=λr=>if r=i then (1:Rat) else 0) (rs:=rs) (λr hr=>if_neg λz=>hi (by rw[<- z];exact hr)) a b
   dsimp only
   rw[this];grind
  have:=ER (r:=i) hF (jx v k) [] [] (-1);rw[this,if_pos rfl,cY];grind
 rw[e2] at e;rw[e];grind
theorem LY {F:List iM->Rat} {r B W:Nat}:∀{post pre:List iM} {s:Rat},(∀ws,(∀w∈ws,w∈pre++post)->ws.length+1=(pre++post).length->Fr 1 B (F ws))->(∀w∈post,Fr 1 W (w r))->Fr 1 1 s->Fr 1 (post.length*(W*B)) (CJ F r pre post s)
 | [],pre,s,_,_,_=>by show Fr 1 _ 0;exact Fr.zero
 | v :: post,pre,s,hF,hw,hs=>by
  have t1:Fr 1 (W*B) (s*v r*F (pre++post)):=by
   have:=(hs.mul (hw v (.head _))).mul (hF (pre++post) (λw h=>by
    rcases ay.mp h with h | h
    ·exact d9 _ h
    ·exact bG _ (.tail _ h)) (by simp only[av,bR];lia))
   simpa using this
  have t2:=LY (F:=F) (r:=r) (B:=B) (W:=W) (post:=post) (pre:=pre++[v]) (s:=-s) (λws h h'=>hF ws (λw hw=>by simpa using h w hw) (by simpa using h')) (λw h=>hw w (.tail _ h)) (by simpa using hs.neg);exact (t1.add t2).mono (by rw[bR,dI];lia)
theorem Cq {W N:Nat}:∀{rs:List Nat} {vs:List iM},vs.length<=N->(∀v∈vs,∀r∈rs,Fr 1 W (v r))->Fr 1 ((N*W)^rs.length) (kf rs vs)
 | [],[],_,_=>by show Fr 1 1 1;exact (Fr.int (i:=1) (by decide))
 | [],_ :: _,_,_=>by show Fr 1 _ 0;exact Fr.zero
 | r :: rs,vs,hl,h=>by
  have:=LY (F:=λws=>kf rs ws) (r:=r) (B:=(N*W)^rs.length) (W:=W) (post:=vs) (pre:=[]) (s:=1) (λws h1 h2=>Cq (by rw[cY] at h2;lia) λv hv r' hr'=>h v (by simpa using h1 v hv) r' (.tail _ hr')) (λw hw=>h w hw r (.head _)) (Fr.int (i:=1) (by decide));refine this.mono ?_;rw[bR,eK,b6 ((N*W)^rs.length),cy N];exact aA _ hl
structure CC (a:Nat->Nat->Rat) (m k:Nat) (pm p:Nat->Nat) (l:Nat->Nat->Rat) (d:Rat):Prop where
 inj:∀i j,i < m->j < m->pm i=pm j->i=j
 rng:∀i,i < m->pm i < m
 km:k<=m
 d0:d≠0
 det:d=kf (pB pm k) (jx (λj r=>a r (p j)) k)
 eqs:∀i,i < m->∀c,d*a (pm i) c=b7 k (λj=>a (pm i) (p j)*l j c)+if i < k then 0 else l i c
 unit:∀i,i < m->∀j,j < k->l i (p j)=if i=j then d else 0
section
variable {a l:Nat->Nat->Rat} {m k:Nat} {pm p:Nat->Nat} {d:Rat}
theorem CC.start (h:∀i,i < m->pm i=i):CC a m 0 pm p a 1 where
 inj i j hi hj e:=by rw[h i hi,h j hj] at e;exact e
 rng i hi:=by rw[h i hi];exact hi
 km:=bx _
 d0:=by decide
 det:=rfl
 eqs i hi c:=by
  rw[h i hi,if_neg (by lia)];show 1*a i c=0+a i c
  grind
 unit i _ j hj:=absurd hj (by lia)
theorem CC.coef (B:CC a m k pm p l d) {i c:Nat} (hi:i < m):a (pm i) c=b7 k (λj=>(l j c / d)*a (pm i) (p j))+if i < k then 0 else l i c / d:=by
 have h:=B.eqs i hi c;have d0:=B.d0
 have e:b7 k (λj=>(l j c / d)*a (pm i) (p j))=(1 / d)*b7 k (λj=>a (pm i) (p j)*l j c):=by
  rw[<- dM];exact bE λj _=>by grind
 rw[e]
 split at h
 ·rw[if_pos (by assumption)];grind
 ·rw[if_neg (by assumption)];grind
theorem CC.old (B:CC a m k pm p l d) {i c:Nat} (hi:i < k):l i c=kf (pB pm k) (Iy (λj r=>a r (p j)) i k++(λr=>a r c) :: jx (λj r=>a r (p j)) i):=by
 have km:=B.km;have d0:=B.d0;rw[zX (v:=λj r=>a r (p j)) (c:=λj=>l j c / d) hi λr hr=>?_,<- B.det]
 ·grind
 ·obtain ⟨t,ht,rfl⟩:=pG hr;have:=B.coef (i:=t) (c:=c) (by lia);rw[if_pos ht] at this;rw[this];grind
theorem CC.new (B:CC a m k pm p l d) {i c:Nat} (h1:k<=i) (hi:i < m):l i c=kf (pm i :: pB pm k) ((λr=>a r c) :: jx (λj r=>a r (p j)) k):=by
 have km:=B.km;have d0:=B.d0
 have hn:pm i∉pB pm k:=λhm=>by
  obtain ⟨t,ht,e⟩:=pG hm;have:=B.inj i t hi (by lia) e
  lia
 have e1:a (pm i) c=b7 k (λj=>(l j c / d)*a (pm i) (p j))+l i c / d:=by
  have:=B.coef (i:=i) (c:=c) hi;rwa [if_neg (by lia)] at this
 have e2:∀r∈pB pm k,a r c=b7 k (λj=>(l j c / d)*a r (p j)):=λr hr=>by
  obtain ⟨t,ht,rfl⟩:=pG hr;have:=B.coef (i:=t) (c:=c) (by lia);rw[if_pos ht] at this;rw[this];grind
 rw[Kz (v:=λj r=>a r (p j)) (c:=λj=>l j c / d) (W:=λr=>a r c) (s:=l i c / d) hn e1 e2,<- B.det];grind
theorem CC.fr {W N:Nat} (B:CC a m k pm p l d) (hN:k < N) (hW:1<=W) (ha:∀i,i < m->∀c,Fr 1 W (a i c)) {i c:Nat} (hi:i < m):Fr 1 ((N*W)^(k+1)) (l i c):=by
 have km:=B.km;have mono:∀t,t<=k+1->(N*W)^t<=(N*W)^(k+1):=λt ht=>au (bU (by lia) hW) ht
 have ha':∀r∈pB pm k,∀c,Fr 1 W (a r c):=λr hr c=>by
  obtain ⟨t,ht,rfl⟩:=pG hr;exact ha _ (B.rng t (by lia)) c
 by_cases h:i < k
 ·rw[B.old h];refine (Cq (W:=W) (N:=N) ?_ ?_).mono (mono _ (by rw[xR];lia))
  ·have:=congrArg List.length (cw_split (v:=λj r=>a r (p j)) h);rw[av,bR,cw_len] at this;rw[av,bR]
   lia
  ·intro v hv r hr;rcases ay.mp hv with hv | hv
   ·obtain ⟨t,_,rfl⟩:=GR hv;exact ha' r hr _
   ·rcases aD.mp hv with rfl | hv
    ·exact ha' r hr _
    ·obtain ⟨t,_,rfl⟩:=cw_in hv;exact ha' r hr _
 ·rw[B.new (by lia) hi];refine (Cq (W:=W) (N:=N) ?_ ?_).mono (mono _ (by rw[bR,xR];lia))
  ·rw[bR,cw_len]
   lia
  ·intro v hv r hr
   have hr':∀c,Fr 1 W (a r c):=λc=>by
    rcases aD.mp hr with rfl | hr
    ·exact ha _ (B.rng i hi) c
    ·exact ha' r hr c
   rcases aD.mp hv with rfl | hv
   ·exact hr' _
   ·obtain ⟨t,_,rfl⟩:=cw_in hv;exact hr' _
theorem CC.dfr {W N:Nat} (B:CC a m k pm p l d) (hN:k<=N) (ha:∀i,i < m->∀c,Fr 1 W (a i c)):Fr 1 ((N*W)^k) d:=by
 have km:=B.km;rw[B.det]
 have:=Cq (W:=W) (N:=N) (rs:=pB pm k) (vs:=jx (λj r=>a r (p j)) k) (by rw[cw_len];exact hN) λv hv r hr=>by
  obtain ⟨t,ht,rfl⟩:=pG hr;obtain ⟨t',_,rfl⟩:=cw_in hv;exact ha _ (B.rng t (by lia)) _
 rwa [xR] at this
def zD (k t i:Nat):Nat:=if i=k then t else if i=t then k else i
theorem yi {k t m i:Nat} (hk:k < m) (ht:t < m) (hi:i < m):zD k t i < m:=by
 unfold zD
 split
 ·exact ht
 ·split
  ·exact hk
  ·exact hi
theorem Pl {k t i j:Nat} (h:zD k t i=zD k t j):i=j:=by
 unfold zD at h
 split at h <;> split at h <;> (try split at h) <;> (try split at h) <;> lia
theorem zB {k t i:Nat} (h:k<=t) (hi:i < k):zD k t i=i:=by
 unfold zD;rw[if_neg (by lia),if_neg (by lia)]
theorem AV {k t i:Nat} (h:k<=t) (hi:k<=i):k<=zD k t i:=by
 unfold zD
 split
 ·exact h
 ·split <;> lia
theorem CC.swap (B:CC a m k pm p l d) {t:Nat} (h:k<=t) (ht:t < m):CC a m k (λi=>pm (zD k t i)) p (λi=>l (zD k t i)) d where
 inj i j hi hj e:=Pl (B.inj _ _ (yi (by lia) ht hi) (yi (by lia) ht hj) e)
 rng i hi:=B.rng _ (yi (by lia) ht hi)
 km:=B.km
 d0:=B.d0
 det:=by rw[B.det,Gf (f:=pm) (g:=λi=>pm (zD k t i)) λj hj=>by rw[zB h hj]]
 eqs i hi c:=by
  have e:=B.eqs (zD k t i) (yi (by lia) ht hi) c;have e1:b7 k (λj=>a (pm (zD k t i)) (p j)*l (zD k t j) c)=b7 k (λj=>a (pm (zD k t i)) (p j)*l j c):=bE λj hj=>by rw[zB h hj]
  rw[e1];by_cases hk:i < k
  ·rw[zB h hk] at e ⊢;exact e
  ·rw[if_neg hk];rw[if_neg (by have:=AV h (show k<=i by lia);lia)] at e;exact e
 unit i hi j hj:=by
  rw[B.unit _ (yi (by lia) ht hi) j hj];by_cases hk:i < k
  ·rw[zB h hk]
  ·have:=AV h (show k<=i by lia);rw[if_neg (by lia),if_neg (by lia)]
theorem CC.step (B:CC a m k pm p l d) {c0:Nat} (hk:k < m) (h0:l k c0≠0):CC a m (k+1) pm (λj=>if j=k then c0 else p j) (λi c=>if i=k then l k c else (l k c0*l i c - l i c0*l k c) / d) (l k c0) where
 inj:=B.inj
 rng:=B.rng
 km:=hk
 d0:=h0
 det:=by
  rw[B.new (ak _) hk];show _=kf (pm k :: pB pm k) ((λr=>a r (if k=k then c0 else p k)) :: jx _ k)
  rw[if_pos rfl];congr 2;exact cw_congr λj hj=>by rw[if_neg (show j≠k by lia)]
 eqs i hi c:=by
  have d0:=B.d0;have e1:=B.eqs i hi c;have e2:=B.eqs i hi c0;show l k c0*a (pm i) c=(b7 k _+_)+_
  have s1:b7 k (λj=>a (pm i) (if j=k then c0 else p j)*(if j=k then l k c else (l k c0*l j c - l j c0*l k c) / d))=(l k c0 / d)*b7 k (λj=>a (pm i) (p j)*l j c)+(- l k c / d)*b7 k (λj=>a (pm i) (p j)*l j c0):=by
   rw[<- dM,<- dM,<- uV];refine bE λj hj=>?_
   rw[if_neg (show j≠k by lia),if_neg (show j≠k by lia)];grind
  rw[s1];simp only[if_true];generalize b7 k (λj=>a (pm i) (p j)*l j c)=S1 at e1 ⊢;generalize b7 k (λj=>a (pm i) (p j)*l j c0)=S2 at e2 ⊢;rcases lh i k with h | h | h
  ·rw[if_pos h] at e1 e2;rw[if_pos (by lia)];grind
  ·subst h;rw[if_neg (by lia)] at e1 e2;rw[if_pos (by lia)];grind
  ·rw[if_neg (by lia)] at e1 e2;rw[if_neg (by lia),if_neg (by lia)];grind
 unit i hi j hj:=by
  have d0:=B.d0;by_cases e:j=k
  ·subst e;simp only[if_true];by_cases ei:i=j
   ·rw[if_pos ei,if_pos ei]
   ·rw[if_neg ei,if_neg ei];grind
  ·have hj':j < k:=by lia
   rw[if_neg e];by_cases ei:i=k
   ·rw[if_pos ei,B.unit k hk j hj',if_neg (by lia),if_neg (by lia)]
   ·rw[if_neg ei,B.unit i hi j hj',B.unit k hk j hj',if_neg (show k≠j by lia)]
    split
    ·grind
    ·grind
end
def fB (m:Nat) (a:Nat->Nat->Rat) (x:Nat->Rat):Prop:=∃w:Nat->Rat,∀c,x c=b7 m λt=>w t*a t c
section
variable {m m' k n:Nat} {a b:Nat->Nat->Rat} {x y:Nat->Rat}
theorem fB.row {i:Nat} (hi:i < m):fB m a (a i):=⟨λt=>if t=i then 1 else 0,λc=>by
 rw[jv hi λj _ ne=>by dsimp only;rw[if_neg ne];grind]
 dsimp only
 rw[if_pos rfl];grind⟩
theorem fB.lin (α β:Rat) (hx:fB m a x) (hy:fB m a y):fB m a λc=>α*x c+β*y c:=by
 obtain ⟨w,hw⟩:=hx;obtain ⟨v,hv⟩:=hy;refine ⟨λt=>α*w t+β*v t,λc=>?_⟩
 dsimp only
 rw[hw c,hv c,<- dM,<- dM,<- uV];exact bE λj _=>by grind
theorem fB.congr (h:∀c,x c=y c) (hx:fB m a x):fB m a y:=by obtain ⟨w,hw⟩:=hx;exact ⟨w,λc=>by rw[<- h c];exact hw c⟩
theorem fB.trans (h:∀t,t < m'->fB m a (b t)) (hx:fB m' b x):fB m a x:=by
 obtain ⟨v,hv⟩:=hx
 have h2:∀t,∃w:Nat->Rat,t < m'->∀c,b t c=b7 m λs=>w s*a s c:=λt=>by
  by_cases ht:t < m'
  ·obtain ⟨w,hw⟩:=h t ht;exact ⟨w,λ_=>hw⟩
  ·exact ⟨λ_=>0,λz=>absurd z ht⟩
 have hc:=Classical.axiomOfChoice h2;obtain ⟨w,hw⟩:=hc;refine ⟨λs=>b7 m' λt=>v t*w t s,λc=>?_⟩;rw[hv c];have e1:b7 m' (λt=>v t*b t c)=b7 m' (λt=>b7 m λs=>v t*(w t s*a s c)):=bE λt ht=>by rw[hw t ht c,<- dM]
 rw[e1,lE];refine bE λs _=>?_
 have:b7 m' (λt=>v t*w t s)*a s c=a s c*b7 m' (λt=>v t*w t s):=fw ..;rw[this,<- dM];exact bE λt _=>by grind
theorem fB.zero (h:∀c,x c=0):fB m a x:=⟨λ_=>0,λc=>by rw[h c,dZ λ_ _=>by grind]⟩
end
structure Hs (m n:Nat) (a:Nat->Nat->Rat) (k:Nat) (p:Nat->Nat) (R:Nat->Nat->Rat):Prop where
 inc:∀i j,i < j->j < k->p i < p j
 low:∀j,j < k->p j < n
 unit:∀i,i < k->∀j,j < k->R i (p j)=if i=j then 1 else 0
 lead:∀i,i < k->∀c,c < p i->R i c=0
 span:∀i,i < m->fB k R (a i)
 back:∀i,i < k->fB m a (R i)
section
variable {m m' k k' n:Nat} {a a' R R':Nat->Nat->Rat} {p p':Nat->Nat} {x:Nat->Rat}
theorem Hs.coef (h:Hs m n a k p R) (hx:fB k R x) (c:Nat):x c=b7 k λj=>x (p j)*R j c:=by
 obtain ⟨w,hw⟩:=hx;rw[hw c];refine bE λj hj=>?_
 rw[hw (p j),jv hj λt ht ne=>by rw[h.unit t ht j hj,if_neg ne];grind,h.unit j hj j hj,if_pos rfl];grind
theorem Hs.lead_in (h:Hs m n a k p R) (hx:fB k R x) {c:Nat} (h1:x c≠0) (h0:∀c',c' < c->x c'=0):∃j,j < k/\p j=c:=by
 refine Classical.byContradiction λhn=>h1 ?_
 rw[h.coef hx c];refine dZ λj hj=>?_
 rcases lh (p j) c with z | z | z
 ·rw[h0 _ z];grind
 ·exact absurd ⟨j,hj,z⟩ hn
 ·rw[h.lead j hj c z];grind
theorem inc_le (h1:∀i j,i < j->j < k->p i < p j) (h2:∀i j,i < j->j < k'->p' i < p' j) (hs:∀j,j < k'->∃i,i < k/\p i=p' j):∀{j:Nat},j < k'->∀{i:Nat},i < k->p i=p' j->j<=i
 | 0,_,_,_,_=>bx _
 | j+1,hj,i,hi,e=>by
  obtain ⟨i0,hi0,e0⟩:=hs j (by lia);have:=inc_le h1 h2 hs (j:=j) (by lia) hi0 e0;have lt:=h2 j (j+1) (by lia) hj;rcases lh i0 i with z | z | z
  ·lia
  ·subst z;lia
  ·have:=h1 i i0 z hi0;lia
theorem L9 (h1:∀i j,i < j->j < k->p i < p j) {i j:Nat} (h:i<=j) (hj:j < k):p i<=p j:=by
 rcases cN i j with z | z
 ·exact bc (h1 i j z hj)
 ·have:i=j:=by lia
  rw[this];exact ak _
theorem Js (h1:∀i j,i < j->j < k->p i < p j) (h2:∀i j,i < j->j < k'->p' i < p' j) (hs:∀j,j < k'->∃i,i < k/\p i=p' j):k'<=k/\∀j,j < k'->p j<=p' j:=by
 refine ⟨?_,λj hj=>?_⟩
 ·rcases fh k' with z | z
  ·lia
  ·obtain ⟨i,hi,e⟩:=hs (k' - 1) (by lia);have:=inc_le h1 h2 hs (j:=k' - 1) (by lia) hi e
   lia
 ·obtain ⟨i,hi,e⟩:=hs j hj;rw[<- e];exact L9 h1 (inc_le h1 h2 hs hj hi e) hi
theorem Hs.uniq (h:Hs m n a k p R) (h':Hs m' n a' k' p' R') (s1:∀i,i < m->fB m' a' (a i)) (s2:∀i,i < m'->fB m a (a' i)):k=k'/\(∀j,j < k->p j=p' j)/\∀i,i < k->∀c,R i c=R' i c:=by
 have x1:∀i,i < k->fB k' R' (R i):=λi hi=>fB.trans (λt ht=>h'.span t ht) (fB.trans s1 (h.back i hi))
 have x2:∀i,i < k'->fB k R (R' i):=λi hi=>fB.trans (λt ht=>h.span t ht) (fB.trans s2 (h'.back i hi))
 have y1:∀j,j < k->∃i,i < k'/\p' i=p j:=λj hj=>h'.lead_in (x1 j hj) (by rw[h.unit j hj j hj,if_pos rfl];decide) (h.lead j hj)
 have y2:∀j,j < k'->∃i,i < k/\p i=p' j:=λj hj=>h.lead_in (x2 j hj) (by rw[h'.unit j hj j hj,if_pos rfl];decide) (h'.lead j hj)
 obtain ⟨z1,w1⟩:=Js h'.inc h.inc y1;obtain ⟨z2,w2⟩:=Js h.inc h'.inc y2;have ek:k=k':=Nat.le_antisymm z1 z2;subst ek;have ep:∀j,j < k->p j=p' j:=λj hj=>Nat.le_antisymm (w2 j hj) (w1 j hj)
 refine ⟨rfl,ep,λi hi c=>?_⟩;rw[h.coef (x2 i hi) c,jv hi λj hj ne=>by rw[ep j hj,h'.unit i hi j hj,if_neg (λz=>ne z.symm)];grind,ep i hi,h'.unit i hi i hi,if_pos rfl];grind
end
structure rV (a:Nat->Nat->Rat) (m k P:Nat) (p:Nat->Nat) (l:Nat->Nat->Rat) (d:Rat):Prop where
 km:k<=m
 d0:d≠0
 unit:∀i,i < m->∀j,j < k->l i (p j)=if i=j then d else 0
 inc:∀i j,i < j->j < k->p i < p j
 low:∀j,j < k->p j < P
 zero:∀i,k<=i->i < m->∀c,c < P->l i c=0
 lead:∀j,j < k->∀c,c < p j->l j c=0
 there:∀i,i < m->fB m l (a i)
 back:∀i,i < m->fB m a (l i)
section
variable {m k n P:Nat} {a l l':Nat->Nat->Rat} {p:Nat->Nat} {d d':Rat}
theorem rV.start:rV a m 0 0 p a 1 where
 km:=bx _
 d0:=by decide
 unit _ _ j hj:=absurd hj (by lia)
 inc _ j _ hj:=absurd hj (by lia)
 low j hj:=absurd hj (by lia)
 zero _ _ _ c hc:=absurd hc (by lia)
 lead j hj:=absurd hj (by lia)
 there i hi:=fB.row hi
 back i hi:=fB.row hi
theorem rV.skip (E:rV a m k P p l d) (h:∀i,k<=i->i < m->l i P=0):rV a m k (P+1) p l d :=
 ⟨E.km,E.d0,E.unit,E.inc,λj hj=>Nat.lt_succ_of_lt (E.low j hj),λi h1 h2 c hc=>by
  by_cases e:c=P
  ·rw[e];exact h i h1 h2
  ·exact E.zero i h1 h2 c (by lia),E.lead,E.there,E.back⟩
theorem Rl {k t i:Nat}:zD k t (zD k t i)=i:=by
 unfold zD
 split
 ·split <;> (try split) <;> lia
 ·split
  ·rw[if_pos rfl];lia
  ·rfl
theorem rV.swap (E:rV a m k P p l d) {t:Nat} (h:k<=t) (ht:t < m):rV a m k P p (λi=>l (zD k t i)) d where
 km:=E.km
 d0:=E.d0
 unit i hi j hj:=by
  rw[E.unit _ (yi (by lia) ht hi) j hj];by_cases hk:i < k
  ·rw[zB h hk]
  ·have:=AV h (show k<=i by lia);rw[if_neg (by lia),if_neg (by lia)]
 inc:=E.inc
 low:=E.low
 zero i h1 h2 c hc:=E.zero _ (AV h h1) (yi (by lia) ht h2) c hc
 lead j hj c hc:=by rw[zB h hj];exact E.lead j hj c hc
 there i hi:=fB.trans (λs hs=>fB.congr (λc=>by rw[Rl]) (fB.row (a:=λi=>l (zD k t i)) (i:=zD k t s) (yi (by lia) ht hs))) (E.there i hi)
 back i hi:=E.back _ (yi (by lia) ht hi)
theorem rV.step (E : rV a m k P p l d) (hk : k < m) (h0 : d' ≠ 0) (unit' : ∀ i, i < m → ∀ j, j < k + 1 → l' i (if j = k then P else p j) = if i = j then d' else 0)
    (hl : ∀ i, i < m → ∃ β γ : Rat, β ≠ 0 /\ (i = k → γ = 0) /\ ∀ c, l' i c = β * l i c + γ * l k c) : rV a m (k + 1) (P + 1) (λj => if j = k then P else p j) l' d' where
  km := hk
  d0 := h0
  unit := unit'
  inc i j hij hj := by
    by_cases e : j = k
    · rw [if_pos e, if_neg (by lia)];exact E.low i (by lia)
    · rw [if_neg e, if_neg (by lia)];exact E.inc i j hij (by lia)
  low j hj := by
    by_cases e : j = k
    · rw [if_pos e]; lia
    · rw [if_neg e];exact Nat.lt_succ_of_lt (E.low j (by lia))
  zero i h1 h2 c hc := by
    by_cases e : c = P
    · have := unit' i h2 k (by lia);rw [if_pos rfl, if_neg (by lia)] at this;rw [e]; exact this
    · obtain ⟨β, γ, _, _, q⟩ := hl i h2;rw [q c, E.zero i (by lia) h2 c (by lia), E.zero k (ak _) hk c (by lia)];grind
  lead j hj c hc := by
    have km := E.km;obtain ⟨β, γ, _, _, q⟩ := hl j (by lia);by_cases e : j = k
    · rw [if_pos e] at hc;rw [q c, e, E.zero k (ak _) hk c hc];grind
    · rw [if_neg e] at hc;have := E.low j (by lia);rw [q c, E.lead j (by lia) c hc, E.zero k (ak _) hk c (by lia)];grind
  there i hi := by
    refine fB.trans (λs hs => ?_) (E.there i hi);obtain ⟨β, γ, b0, _, q⟩ := hl s hs;obtain ⟨βk, γk, bk0, gk, qk⟩ := hl k hk;have g0 := gk rfl;refine fB.congr (λc => ?_) (fB.lin (1 / β) (-(γ / β) / βk) (fB.row (a := l') hs) (fB.row (a := l') hk));rw [q c, qk c, g0];grind
  back i hi := by
    obtain ⟨β, γ, _, _, q⟩ := hl i hi;exact fB.congr (λc => (q c).symm) (fB.lin β γ (E.back i hi) (E.back k hk))
theorem rV.done (E:rV a m k n p l d) (ha:∀i,i < m->∀c,n<=c->a i c=0):Hs m n a k p (λi c=>l i c / d) where
 inc:=E.inc
 low:=E.low
 unit i hi j hj:=by
  have d0:=E.d0;have km:=E.km;rw[E.unit i (by lia) j hj]
  split
  ·grind
  ·grind
 lead i hi c hc:=by
  rw[E.lead i hi c hc];grind
 span i hi:=by
  have d0:=E.d0;refine fB.trans (λs hs=>?_) (E.there i hi);by_cases z:s < k
  ·refine fB.congr (λc=>?_) (fB.lin d 0 (fB.row (a:=λi c=>l i c / d) z) (fB.row (a:=λi c=>l i c / d) z));grind
  ·refine fB.zero λc=>?_
   by_cases hc:c < n
   ·exact E.zero s (by lia) hs c hc
   ·obtain ⟨w,hw⟩:=E.back s hs;rw[hw c,dZ λt ht=>by rw[ha t ht c (by lia)];grind]
 back i hi:=by
  have km:=E.km;have d0:=E.d0;refine fB.congr (λc=>?_) (fB.lin (1 / d) 0 (E.back i (by lia)) (E.back i (by lia)));grind
end
def fv (ls:List (List Int)) (i c:Nat):Rat:=(((ls.getD i []).getD c 0:Int):Rat)
def cZ (rows:LR9) (i c:Nat):Rat:=(rows.getD i []).getD c 0
def sN (ls:List (List Int)) (k t:Nat):List (List Int):=(ls.set k (ls.getD t [])).set t (ls.getD k [])
def GU (ls:List (List Int)) (k c:Nat) (b:Int):List (List Int):=(ls.map λzs=>List.zipWith (λx y=>((ls.getD k []).getD c 0*x - zs.getD c 0*y).fdiv b) zs (ls.getD k [])).set k (ls.getD k [])
section
variable {ls ls0:List (List Int)} {k t n P c:Nat} {b d:Int} {ps:List Nat}
theorem vC {α:Type} {l:List α} {i j:Nat} {x e:α} (hi:i < l.length):(l.set i x).getD j e=if j=i then x else l.getD j e:=by
 rw[ae,ae,List.getElem?_set];by_cases h:j=i
 ·subst h;rw[if_pos rfl,if_pos hi,if_pos rfl];rfl
 ·rw[if_neg (λz=>h z.symm),if_neg h]
theorem zC:(sN ls k t).length=ls.length:=by unfold sN;rw[dY,dY]
theorem MG:(GU ls k c b).length=ls.length:=by unfold GU;rw[dY,ao]
theorem getD_in {α:Type} {l:List α} {i:Nat} {e:α} (h:i < l.length):l.getD i e∈l:=by
 rw[ae,af h];exact aT h
theorem IT (w:∀zs∈ls,zs.length=n) (hk:k < ls.length) (ht:t < ls.length):∀zs∈sN ls k t,zs.length=n:=λzs hz=>by
 unfold sN at hz;rcases cm hz with h | h
 ·rcases cm h with h | h
  ·exact w zs h
  ·rw[h];exact w _ (getD_in ht)
 ·rw[h];exact w _ (getD_in hk)
theorem JE (w:∀zs∈ls,zs.length=n) (hk:k < ls.length):∀zs∈GU ls k c b,zs.length=n:=λzs hz=>by
 unfold GU at hz;rcases cm hz with h | h
 ·obtain ⟨y,hy,rfl⟩:=aH.mp h;rw[cX,w y hy,w _ (getD_in hk)]
  lia
 ·rw[h];exact w _ (getD_in hk)
theorem yL (hk:k < ls.length) (ht:t < ls.length) (i c:Nat):fv (sN ls k t) i c=fv ls (zD k t i) c:=by
 unfold fv sN zD;rw[vC (by rw[dY];exact ht),vC hk];by_cases h1:i=t
 ·rw[if_pos h1];by_cases h2:i=k
  ·rw[if_pos h2,<- h1,<- h2]
  ·rw[if_neg h2,if_pos h1]
 ·rw[if_neg h1];by_cases h2:i=k
  ·rw[if_pos h2,if_pos h2]
  ·rw[if_neg h2,if_neg h2,if_neg h1]
theorem Cp (w:∀zs∈ls,zs.length=n) {i c:Nat} (hc:n<=c):fv ls i c=0:=by
 unfold fv;by_cases h:i < ls.length
 ·have:=w _ (getD_in (e:=[]) h);rw[ae (l:=ls.getD i []),aR (by lia)];rfl
 ·rw[ae (l:=ls),aR (by lia)];rfl
theorem vH {x:Int} (h:(x:Rat)=0):x=0:=by
 have:(x:Rat)=((0:Int):Rat):=h;exact dX.mp this
theorem Iw {x b:Int} {q:Rat} (hb:b≠0) (hq:∃z:Int,q=(z:Rat)) (e:(x:Rat)=(b:Rat)*q):((x.fdiv b:Int):Rat)=q:=by
 obtain ⟨z,rfl⟩:=hq;rw[<- aW] at e;have:=dX.mp e;rw[this,Int.mul_fdiv_cancel_left _ hb]
theorem A3 {W:Nat} {q:Rat} (h:Fr 1 W q):∃z:Int,q=(z:Rat):=by
 obtain ⟨z,e,_⟩:=h;exact ⟨z,by rw[<- e];simp⟩
theorem zW {W:Nat} {z:Int} (h:Fr 1 W (z:Rat)):z.natAbs<=W:=by
 obtain ⟨y,e,b⟩:=h;have:(z:Rat)=(y:Rat):=by rw[<- e];simp
 rw[dX.mp this];simpa using b
theorem Mq (w:∀zs∈ls,zs.length=n) (hk:k < ls.length) (hb:b≠0) {i:Nat} (hi:i < ls.length) (hz:∀c,∃z:Int,(fv ls k P*fv ls i c - fv ls i P*fv ls k c) / (b:Rat)=(z:Rat)) (c:Nat) :
  fv (GU ls k P b) i c=if i=k then fv ls k c else (fv ls k P*fv ls i c - fv ls i P*fv ls k c) / (b:Rat):=by
 by_cases e:i=k
 ·rw[if_pos e];unfold fv GU;rw[vC (by rw[ao];exact hk),if_pos e]
 ·rw[if_neg e];by_cases hc:c < n
  ·have hb':(b:Rat)≠0:=λz=>hb (vH z)
   have lk:=w _ (getD_in (e:=[]) hk);have li:=w _ (getD_in (e:=[]) hi)
   have e1:fv (GU ls k P b) i c=(((((ls.getD k []).getD P 0*(ls.getD i []).getD c 0 - (ls.getD i []).getD P 0*(ls.getD k []).getD c 0).fdiv b:Int)):Rat):=by
    unfold GU;rw[fv,vC (by rw[ao];exact hk),if_neg e];rw[ae (l:=List.map _ ls),aM,af hi];show ((((List.zipWith _ ls[i] (ls.getD k [])).getD c 0:Int)):Rat)=_
    have ei:ls.getD i []=ls[i]:=by rw[ae,af hi];rfl
    rw[<- ei];rw[ae (l:=List.zipWith _ _ _),b9,ae (l:=ls.getD i []) (i:=c),ae (l:=ls.getD k []) (i:=c),af (show c < (ls.getD i []).length by lia),af (show c < (ls.getD k []).length by lia)];rfl
   rw[e1];refine Iw hb (hz c) ?_;rw[Rat.intCast_sub,aW,aW];show _=(b:Rat)*((fv ls k P*fv ls i c - fv ls i P*fv ls k c) / (b:Rat))
   show fv ls k P*fv ls i c - fv ls i P*fv ls k c=_
   grind
  ·rw[Cp (JE w hk) (show n<=c by lia),Cp w (i:=i) (show n<=c by lia),Cp w (i:=k) (show n<=c by lia)];grind
end
section
variable {m k n P:Nat} {a l l2:Nat->Nat->Rat} {pm p p2:Nat->Nat} {d:Rat}
theorem CC.congr (B:CC a m k pm p l d) (hp:∀j,j < k->p2 j=p j) (hl:∀i,i < m->∀c,l2 i c=l i c):CC a m k pm p2 l2 d where
 inj:=B.inj
 rng:=B.rng
 km:=B.km
 d0:=B.d0
 det:=by rw[B.det,cw_congr (f:=λj r=>a r (p j)) (g:=λj r=>a r (p2 j)) λj hj=>by rw[hp j hj]]
 eqs i hi c:=by
  have km:=B.km;rw[B.eqs i hi c,hl i hi c];congr 1;exact bE λj hj=>by rw[hp j hj,hl j (by lia) c]
 unit i hi j hj:=by rw[hp j hj,hl i hi];exact B.unit i hi j hj
theorem fB.rows {x:Nat->Rat} (h:∀i,i < m->∀c,l2 i c=l i c) (hx:fB m l x):fB m l2 x:=by obtain ⟨w,hw⟩:=hx;exact ⟨w,λc=>by rw[hw c];exact bE λt ht=>by rw[h t ht c]⟩
theorem rV.congr (E:rV a m k P p l d) (hp:∀j,j < k->p2 j=p j) (hl:∀i,i < m->∀c,l2 i c=l i c):rV a m k P p2 l2 d where
 km:=E.km
 d0:=E.d0
 unit i hi j hj:=by rw[hp j hj,hl i hi];exact E.unit i hi j hj
 inc i j hij hj:=by rw[hp i (by lia),hp j hj];exact E.inc i j hij hj
 low j hj:=by rw[hp j hj];exact E.low j hj
 zero i h1 h2 c hc:=by rw[hl i h2];exact E.zero i h1 h2 c hc
 lead j hj c hc:=by
  have km:=E.km;rw[hp j hj] at hc;rw[hl j (by lia)];exact E.lead j hj c hc
 there i hi:=(E.there i hi).rows hl
 back i hi:=(E.back i hi).congr λc=>(hl i hi c).symm
theorem rV.kP (E:rV a m k P p l d):k<=P:=by
 have:∀j,j < k->j<=p j:=by
  intro j
  induction j with
  | zero=>intro _;exact bx _
  | succ j ih =>
   intro hj;have:=ih (by lia);have:=E.inc j (j+1) (by lia) hj
   lia
 rcases fh k with z | z
 ·lia
 ·have h1:=this (k - 1) (by lia);have h2:=E.low (k - 1) (by lia)
  lia
end
structure D6 (ls0:List (List Int)) (n P:Nat) (ls:List (List Int)) (ps:List Nat) (d:Int):Prop where
 len:ls.length=ls0.length
 wide:∀zs∈ls,zs.length=n
 bar:∃pm,CC (fv ls0) ls0.length ps.length pm (λj=>ps.getD j 0) (fv ls) d
 el:rV (fv ls0) ls0.length ps.length P (λj=>ps.getD j 0) (fv ls) d
section
variable {ls0 ls:List (List Int)} {n P:Nat} {ps:List Nat} {d:Int}
theorem D6.start (w:∀zs∈ls0,zs.length=n):D6 ls0 n 0 ls0 [] 1:=⟨rfl,w,⟨λi=>i,CC.start λ_ _=>rfl⟩,rV.start⟩
theorem D6.d0 (h:D6 ls0 n P ls ps d):d≠0:=λz=>h.el.d0 (by rw[z];rfl)
theorem D6.skip (h:D6 ls0 n P ls ps d) (hz:∀i,ps.length<=i->i < ls.length->fv ls i P=0):D6 ls0 n (P+1) ls ps d:=⟨h.len,h.wide,h.bar,h.el.skip λi h1 h2=>hz i h1 (by rw[h.len];exact h2)⟩
theorem getD_snoc {l:List Nat} {x j:Nat} (hj:j < l.length+1):(l++[x]).getD j 0=if j=l.length then x else l.getD j 0:=by
 rw[ae,ae];by_cases e:j=l.length
 ·rw[if_pos e,e,ba (ak _),fP];rfl
 ·rw[if_neg e,bA (by lia)]
theorem D6.int {W:Nat} (h:D6 ls0 n P ls ps d) (hW:1<=W) (h0:∀i,i < ls0.length->∀c,Fr 1 W (fv ls0 i c)) {t:Nat} (ht:ps.length<=t) (ht2:t < ls.length) (hne:fv ls t P≠0) :
  ∀i,i < ls.length->i≠ps.length->∀c,∃z:Int,(fv (sN ls ps.length t) ps.length P*fv (sN ls ps.length t) i c - fv (sN ls ps.length t) i P*fv (sN ls ps.length t) ps.length c) / (d:Rat)=(z:Rat):=λi hi ne c=>by
 obtain ⟨pm,B⟩:=h.bar;have hl:=h.len;have hk:ps.length < ls.length:=by lia
 have B1:=(B.swap ht (by lia)).congr (p2:=λj=>ps.getD j 0) (l2:=fv (sN ls ps.length t)) (λ_ _=>rfl) (λi _ c=>yL hk ht2 i c)
 have h1:fv (sN ls ps.length t) ps.length P≠0:=by
  rw[yL hk ht2];unfold zD;rw[if_pos rfl];exact hne
 have B2:=B1.step (c0:=P) (by lia) h1;have:=B2.fr (W:=W) (N:=ps.length+2) (by lia) hW h0 (i:=i) (c:=c) (by lia);rw[if_neg ne] at this;exact A3 this
theorem D6.step {W:Nat} (h:D6 ls0 n P ls ps d) (hW:1<=W) (h0:∀i,i < ls0.length->∀c,Fr 1 W (fv ls0 i c)) {t:Nat} (ht:ps.length<=t) (ht2:t < ls.length) (hne:fv ls t P≠0) :
  D6 ls0 n (P+1) (GU (sN ls ps.length t) ps.length P d) (ps++[P]) (((GU (sN ls ps.length t) ps.length P d).getD ps.length []).getD P 0):=by
 obtain ⟨pm,B⟩:=h.bar;have hl:=h.len;have hk:ps.length < ls.length:=by lia
 have hz:=h.int hW h0 ht ht2 hne;have w1:=IT h.wide hk ht2;have k1:ps.length < (sN ls ps.length t).length:=by rw[zC];exact hk
 have B1:=(B.swap ht (by lia)).congr (p2:=λj=>ps.getD j 0) (l2:=fv (sN ls ps.length t)) (λ_ _=>rfl) (λi _ c=>yL hk ht2 i c);have E1:=(h.el.swap ht (by lia)).congr (p2:=λj=>ps.getD j 0) (l2:=fv (sN ls ps.length t)) (λ_ _=>rfl) (λi _ c=>yL hk ht2 i c)
 have h1:fv (sN ls ps.length t) ps.length P≠0:=by
  rw[yL hk ht2];unfold zD;rw[if_pos rfl];exact hne
 have B2:=B1.step (c0:=P) (by lia) h1
 have fc:∀i,i < ls0.length->∀c,fv (GU (sN ls ps.length t) ps.length P d) i c=if i=ps.length then fv (sN ls ps.length t) ps.length c else (fv (sN ls ps.length t) ps.length P*fv (sN ls ps.length t) i c - fv (sN ls ps.length t) i P*fv (sN ls ps.length t) ps.length c) / (d:Rat):=λi hi c=>by
  by_cases e:i=ps.length
  ·rw[if_pos e];unfold fv GU;rw[vC (by rw[ao];exact k1),if_pos e]
  ·have:=Mq w1 k1 h.d0 (i:=i) (by rw[zC];lia) (hz i (by lia) e) c;rw[this]
 have ed:(((((GU (sN ls ps.length t) ps.length P d).getD ps.length []).getD P 0:Int)):Rat)=fv (sN ls ps.length t) ps.length P:=by
  have:=fc ps.length (by lia) P;rw[if_pos rfl] at this;exact this
 have lp:(ps++[P]).length=ps.length+1:=by rw[av];rfl
 have hp:∀j,j < ps.length+1->(ps++[P]).getD j 0=if j=ps.length then P else ps.getD j 0:=λj hj=>getD_snoc hj
 refine ⟨by rw[MG,zC];exact hl,JE w1 k1,⟨λi=>pm (zD ps.length t i),?_⟩,?_⟩
 ·rw[ed,lp];exact B2.congr hp fc
 ·rw[ed,lp];refine rV.congr (E1.step (d':=fv (sN ls ps.length t) ps.length P) (l':=λi c=>if i=ps.length then fv (sN ls ps.length t) ps.length c else (fv (sN ls ps.length t) ps.length P*fv (sN ls ps.length t) i c - fv (sN ls ps.length t) i P*fv (sN ls ps.length t) ps.length c) / (d:Rat)) (by lia) h1 B2.unit λi hi=>?_) hp fc;have d0:=h.el.d0;by_cases e:i=ps.length
  ·refine ⟨1,0,by decide,λ_=>rfl,λc=>?_⟩;rw[if_pos e,e];grind
  ·refine ⟨fv (sN ls ps.length t) ps.length P / (d:Rat),-(fv (sN ls ps.length t) i P) / (d:Rat),?_,λz=>absurd z e,λc=>?_⟩
   ·intro z;apply h1;grind
   ·rw[if_neg e];grind
theorem D6.sz {W r:Nat} (h:D6 ls0 n P ls ps d) (hW:1<=W) (h0:∀i,i < ls0.length->∀c,Fr 1 W (fv ls0 i c)) (hP:P<=n) (hr:min ls0.length n<=r) (r15:r<=15):(d.natAbs<=(16*W)^r)/\∀zs∈ls,∀z∈zs,z.natAbs<=(16*W)^r:=by
 obtain ⟨pm,B⟩:=h.bar;have kP:=h.el.kP;have km:=B.km;have hl:=h.len;have mono:∀{s t:Nat},s<=t->(16*W)^s<=(16*W)^t:=λhs=>au (bU (by decide) hW) hs
 refine ⟨ai (zW (B.dfr (W:=W) (N:=16) (by lia) h0)) (mono (by lia)),λzs hz z hz'=>?_⟩;obtain ⟨i,hi,rfl⟩:=bX hz;obtain ⟨c,hc,rfl⟩:=bX hz';have hw:=h.wide _ (aT hi)
 have ez:fv ls i c=(((ls[i])[c]:Int):Rat):=by
  unfold fv;rw[ae (l:=ls),af hi];show ((ls[i].getD c 0:Int):Rat)=_
  rw[ae,af hc];rfl
 by_cases hk:i < ps.length
 ·have:Fr 1 ((16*W)^ps.length) (fv ls i c):=by
   have hd:=B.d0;rw[B.old hk]
   have:=Cq (W:=W) (N:=16) (rs:=pB pm ps.length) (vs:=Iy (λj r=>fv ls0 r (ps.getD j 0)) i ps.length++(λr=>fv ls0 r c) :: jx (λj r=>fv ls0 r (ps.getD j 0)) i) (by
    have:=congrArg List.length (cw_split (v:=λj r=>fv ls0 r (ps.getD j 0)) hk);rw[av,bR,cw_len] at this;rw[av,bR]
    lia) (by
    intro v hv r hr
    have hr':∀c,Fr 1 W (fv ls0 r c):=λc=>by
     obtain ⟨t,ht,rfl⟩:=pG hr;exact h0 _ (B.rng t (by lia)) c
    rcases ay.mp hv with hv | hv
    ·obtain ⟨t,_,rfl⟩:=GR hv;exact hr' _
    ·rcases aD.mp hv with rfl | hv
     ·exact hr' _
     ·obtain ⟨t,_,rfl⟩:=cw_in hv;exact hr' _)
   rwa [xR] at this
  rw[ez] at this;exact ai (zW this) (mono (by lia))
 ·by_cases hn:ps.length < n
  ·have:=B.fr (W:=W) (N:=16) (by lia) hW h0 (i:=i) (c:=c) (by lia);rw[ez] at this;exact ai (zW this) (mono (by lia))
  ·have:=h.el.zero i (by lia) (by lia) c (by lia);rw[ez] at this;rw[vH this];exact bx _
end
def Tp (M W:Nat) (q:Rat):Prop:=∃z:Int,q*(M:Rat)=(z:Rat)/\z.natAbs<=W
theorem Tp.of {M V W:Nat} {q:Rat} (h:Fr M V q) (hW:V*M<=W):Tp M W q:=by obtain ⟨z,a,b⟩:=h;exact ⟨z,a,ai b hW⟩
theorem Tp.mono {M W W':Nat} {q:Rat} (h:Tp M W q) (hW:W<=W'):Tp M W' q:=by obtain ⟨z,a,b⟩:=h;exact ⟨z,a,ai b hW⟩
theorem Tp.fr {M W:Nat} {q:Rat} (h:Tp M W q) (h0:0 < M):Fr M W q:=by obtain ⟨z,a,b⟩:=h;exact ⟨z,a,ai b (dA _ h0)⟩
def Hq (rows:LR9) (n w:Nat):Prop:=∃M W:Nat,0 < M/\M<=2^4300/\1<=W/\W<=2^w/\(∀xs∈rows,∀x∈xs,Tp M W x)/\w<=4300/\min rows.length n<=15/\min rows.length n*(w+4)<=8900
def nD (xs:List Rat):List Int:=fN (xs.map nm) (iJ (xs.map nm))
theorem yh {xs:List Rat}:(nD xs).length=xs.length:=by unfold nD fN;rw[ao,ao]
theorem Ct {xs:List Rat}:0 < iJ (xs.map nm):=Ck (by decide) λb hb=>by
 obtain ⟨n,hn,rfl⟩:=aH.mp hb;obtain ⟨x,_,rfl⟩:=aH.mp hn;exact kI x
theorem Ng {xs:List Rat} {c:Nat}:(((nD xs).getD c 0:Int):Rat)=xs.getD c 0*((iJ (xs.map nm):Int):Rat):=by
 unfold nD fN;rw[ae,ae,aM,aM];cases e:xs[c]? with
 | none=>show ((0:Int):Rat)=0*_;rw[nv];rfl
 | some x=>exact uR (vI (aH.mpr ⟨x,aw e,rfl⟩))
section
variable {rows:LR9} {n w i c:Nat} {xs:List Rat}
theorem Fv (hi:i < rows.length):fv (rows.map nD) i c=((iJ ((rows.getD i []).map nm):Int):Rat)*cZ rows i c:=by
 unfold fv cZ
 have e:(rows.map nD).getD i []=nD (rows.getD i []):=by
  rw[ae,ae,aM,af hi];rfl
 rw[e,Ng,fw]
theorem Mn (hw:∀xs∈rows,xs.length=n) (hc:n<=c):cZ rows i c=0:=by
 unfold cZ;by_cases h:i < rows.length
 ·have:=hw _ (getD_in (e:=[]) h);rw[ae (l:=rows.getD i []),aR (by lia)];rfl
 ·rw[ae (l:=rows),aR (by lia)];rfl
theorem IL (i:Nat) (hi:i < rows.length):fB rows.length (fv (rows.map nD)) (cZ rows i):=by
 have h0:((iJ ((rows.getD i []).map nm):Int):Rat)≠0:=λz=>by
  have:=Ct (xs:=rows.getD i []);have:=vH z
  lia
 refine fB.congr (λc=>?_) (fB.lin (1 / ((iJ ((rows.getD i []).map nm):Int):Rat)) 0 (fB.row (a:=fv (rows.map nD)) hi) (fB.row (a:=fv (rows.map nD)) hi));rw[Fv hi];grind
theorem IK (i:Nat) (hi:i < rows.length):fB rows.length (cZ rows) (fv (rows.map nD) i):=by
 refine fB.congr (λc=>?_) (fB.lin ((iJ ((rows.getD i []).map nm):Int):Rat) 0 (fB.row (a:=cZ rows) hi) (fB.row (a:=cZ rows) hi));rw[Fv hi];grind
theorem Bn {M W:Nat} {x:Rat} (h:Tp M W x):(nm x).2∣(M:Int):=by
 obtain ⟨z,e,b⟩:=h
 exact Fr.den (V:=z.natAbs) (M:=M) ⟨z,e,by
  rcases fh M with h | h
  ·subst h;have:(z:Rat)=0:=by rw[<- e];simp
   rw[vH this];simp
  ·exact dA _ h⟩
theorem Ee {M W:Nat} {x:Rat} (h:Tp M W x) (h0:0 < M) {B:Int} (hB:0 < B) (d1:(nm x).2∣B) (d2:B∣(M:Int)):∃t:Int,x*(B:Rat)=(t:Rat)/\t.natAbs<=W:=by
 obtain ⟨z,e,b⟩:=h;obtain ⟨s,es⟩:=d2;refine ⟨(nm x).1*(B / (nm x).2),(uR d1).symm,?_⟩
 have s0:0 < s:=by
  rcases Int.lt_trichotomy s 0 with h | h | h
  ·have:=Int.mul_neg_of_pos_of_neg hB h
   lia
  ·rw[h] at es;lia
  ·exact h
 have e2:(((nm x).1*(B / (nm x).2)*s:Int):Rat)=(z:Rat):=by
  rw[aW,uR d1,<- e,<- aU,es,aW];grind
 have e3:=dX.mp e2;have:((nm x).1*(B / (nm x).2)).natAbs*s.natAbs=z.natAbs:=by rw[<- dg,e3]
 have h1:1<=s.natAbs:=by lia
 have:=dA ((nm x).1*(B / (nm x).2)).natAbs h1
 lia
theorem JF {M W:Nat} (h0:0 < M) (h:∀x∈xs,Tp M W x):iJ (xs.map nm)∣(M:Int):=A1 (by decide) (Int.one_dvd _) λb hb=>by
 obtain ⟨n,hn,rfl⟩:=aH.mp hb;obtain ⟨x,hx,rfl⟩:=aH.mp hn;exact ⟨kI x,Bn (h x hx)⟩
theorem Hq.rowM (F:Hq rows n w) (hx:xs∈rows):∃M,ID M (xs.map nm):=by
 obtain ⟨M,W,h0,h1,hW,h2,h3,h4,_⟩:=F;refine ⟨M,by lia,?_,λy hy=>?_⟩
 ·show ((M:Nat):Int).natAbs < 2^4400
  rw[cg];exact bJ h1 (d7 (by decide) (by decide))
 ·obtain ⟨x,hx',rfl⟩:=aH.mp hy;have t:=h3 xs hx x hx';refine ⟨kI x,Bn t,?_⟩;obtain ⟨s,e,b⟩:=Ee t h0 (kI x) (Int.dvd_refl _) (Bn t);have e2:(((nm x).1:Int):Rat)=(s:Rat):=by rw[<- e];exact sZ x
  rw[dX.mp e2];exact bJ (ai b h2) (d7 (by decide) (by lia))
theorem Hq.ent (F:Hq rows n w):∃W:Nat,1<=W/\W<=2^w/\∀i,i < (rows.map nD).length->∀c,Fr 1 W (fv (rows.map nD) i c):=by
 obtain ⟨M,W,h0,h1,hW,h2,h3,h4,_⟩:=F;refine ⟨W,hW,h2,λi hi c=>?_⟩;rw[ao] at hi;have hx:=getD_in (e:=[]) hi;rw[Fv hi];unfold cZ;generalize rows.getD i []=xs at hx ⊢;by_cases hc:c < xs.length
 ·have t:=h3 xs hx _ (getD_in (e:=0) hc);obtain ⟨s,e,b⟩:=Ee t h0 (Ct (xs:=xs)) (vI (aH.mpr ⟨_,getD_in (e:=0) hc,rfl⟩)) (JF h0 (h3 xs hx));rw[fw,e];exact Fr.int b
 ·rw[ae,aR (by lia)];show Fr 1 W (_*0)
  rw[rA];exact Fr.zero
end
def cD (rows:LR9) (n:Nat) (R:LR9) (ps:List Nat):Prop:=R.length=ps.length/\(∀xs∈R,xs.length=n)/\Hs rows.length n (cZ rows) ps.length (λj=>ps.getD j 0) (cZ R)
structure S8 (rows:LR9) (n w:Nat) (R:LR9) (ps:List Nat) (d:Int) (ls:List (List Int)):Prop where
 rr:cD rows n R ps
 d0:d≠0
 len:ls.length=ps.length
 wide:∀zs∈ls,zs.length=n
 val:∀i c,fv ls i c=(d:Rat)*cZ R i c
 dsz:d.natAbs<=2^(min rows.length n*(w+4))
 zsz:∀zs∈ls,∀z∈zs,z.natAbs<=2^(min rows.length n*(w+4))
 tp:∀xs∈R,∀x∈xs,Tp d.natAbs (2^(min rows.length n*(w+4))) x
 km:ps.length<=rows.length
theorem Hs.congrR {m n k:Nat} {a R R2:Nat->Nat->Rat} {p:Nat->Nat} (h:Hs m n a k p R) (hr:∀i,i < k->∀c,R2 i c=R i c):Hs m n a k p R2 :=
 ⟨h.inc,h.low,λi hi j hj=>by rw[hr i hi];exact h.unit i hi j hj,λi hi c hc=>by rw[hr i hi];exact h.lead i hi c hc,λi hi=>(h.span i hi).rows hr,λi hi=>(h.back i hi).congr λc=>(hr i hi c).symm⟩
theorem Hs.other {m m' n k:Nat} {a a' R:Nat->Nat->Rat} {p:Nat->Nat} (h:Hs m n a k p R) (s1:∀i,i < m->fB m' a' (a i)) (s2:∀i,i < m'->fB m a (a' i)):Hs m' n a' k p R :=
 ⟨h.inc,h.low,h.unit,h.lead,λi hi=>fB.trans h.span (s2 i hi),λi hi=>fB.trans s1 (h.back i hi)⟩
theorem HS {W w r : Nat} (h : W ≤ 2 ^ w) : (16 * W) ^ r ≤ 2 ^ (r * (w + 4)) := by
  calc (16 * W) ^ r ≤ (2 ^ (w + 4)) ^ r := jo (by rw [bo]; lia) _
    _ = 2 ^ (r * (w + 4)) := by rw [<- zx, b6]
theorem D6.done {rows:LR9} {n w:Nat} {ls:List (List Int)} {ps:List Nat} {d:Int} (h:D6 (rows.map nD) n n ls ps d) (hw:∀xs∈rows,xs.length=n) (F:Hq rows n w) :
  ∃R,S8 rows n w R ps d (ls.take ps.length):=by
 obtain ⟨W,hW,W2,ent⟩:=F.ent;obtain ⟨_,_,_,_,_,_,_,_,r15,_⟩:=F;have hl:=h.len;have d0:=h.d0;have d0':(d:Rat)≠0:=λz=>d0 (vH z)
 have km:=h.el.km;have hm:(rows.map nD).length=rows.length:=ao ..;obtain ⟨s1,s2⟩:=h.sz (r:=min rows.length n) hW ent (ak _) (by rw[hm];exact ak _) r15;have s2':∀zs∈ls,∀z∈zs,z.natAbs<=2^(min rows.length n*(w+4)):=λzs hz z hz'=>ai (s2 zs hz z hz') (HS W2)
 have er:∀i c,cZ ((ls.take ps.length).map λzs=>zs.map λ(z:Int)=>(z:Rat) / (d:Rat)) i c=fv (ls.take ps.length) i c / (d:Rat):=λi c=>by
  unfold cZ fv;rw[ae (l:=List.map _ _),aM,ae (l:=List.take _ _)];cases e:(ls.take ps.length)[i]? with
  | none=>show (0:Rat)=((0:Int):Rat) / _;grind
  | some zs =>
   show (zs.map λ(z:Int)=>(z:Rat) / (d:Rat)).getD c 0=((zs.getD c 0:Int):Rat) / (d:Rat)
   rw[ae,ae,aM];cases e2:zs[c]? with
   | none=>show (0:Rat)=((0:Int):Rat) / _;grind
   | some z=>rfl
 have et:∀i,i < ps.length->∀c,fv (ls.take ps.length) i c=fv ls i c:=λi hi c=>by
  unfold fv;rw[ae (l:=List.take _ _),zz hi,<- ae]
 have RR:=(h.el.done λi hi c hc=>Cp (n:=n) (λzs hz=>by
  obtain ⟨xs,hx,rfl⟩:=aH.mp hz;rw[yh];exact hw xs hx) hc).congrR (R2:=cZ ((ls.take ps.length).map λzs=>zs.map λ(z:Int)=>(z:Rat) / (d:Rat))) λi hi c=>by rw[er,et i hi]
 rw[hm] at RR;refine ⟨(ls.take ps.length).map λzs=>zs.map λ(z:Int)=>(z:Rat) / (d:Rat),⟨by rw[ao,cT];lia,λxs hx=>?_,RR.other IK IL⟩,d0,by rw[cT];lia,λzs hz=>h.wide zs (cA hz),λi c=>?_,ai s1 (HS W2),λzs hz=>s2' zs (cA hz),λxs hx x hx'=>?_,by lia⟩
 ·obtain ⟨zs,hz,rfl⟩:=aH.mp hx;rw[ao];exact h.wide zs (cA hz)
 ·rw[er];grind
 ·obtain ⟨zs,hz,rfl⟩:=aH.mp hx;obtain ⟨z,hz',rfl⟩:=aH.mp hx';have b:=s2' zs (cA hz) z hz';rcases Q1 d with e | e
  ·refine ⟨z,?_,b⟩;have:((d.natAbs:Nat):Rat)=(d:Rat):=by rw[<- aU,<- e]
   rw[this];grind
  ·refine ⟨-z,?_,by rw[xN];exact b⟩;have:((d.natAbs:Nat):Rat)=-(d:Rat):=by rw[<- aU,<- dS];congr 1;lia
   rw[this,dS];grind
theorem Mo {R R':LR9} {n:Nat} (hl:R.length=R'.length) (w1:∀xs∈R,xs.length=n) (w2:∀xs∈R',xs.length=n) (h:∀i,i < R.length->∀c,cZ R i c=cZ R' i c):R=R':=by
 apply ee hl;intro i h1 h2;apply ee (by rw[w1 _ (aT h1),w2 _ (aT h2)]);intro c h3 h4;have:=h i h1 c;unfold cZ at this;rw[ae (l:=R),ae (l:=R'),af h1,af h2] at this;have this:(R[i]).getD c 0=(R'[i]).getD c 0:=this;rw[ae,ae,af h3,af h4] at this;exact this
theorem cD.uniq {rows rows' R R':LR9} {n:Nat} {ps ps':List Nat} (h:cD rows n R ps) (h':cD rows' n R' ps') (s1:∀i,i < rows.length->fB rows'.length (cZ rows') (cZ rows i)) (s2:∀i,i < rows'.length->fB rows.length (cZ rows) (cZ rows' i)):R=R'/\ps=ps':=by
 obtain ⟨l1,w1,r1⟩:=h;obtain ⟨l2,w2,r2⟩:=h';obtain ⟨ek,ep,eR⟩:=r1.uniq r2 s1 s2;refine ⟨Mo (by lia) w1 w2 λi hi c=>eR i (by lia) c,?_⟩;apply ee ek;intro j h1 h2;have:=ep j h1;rw[ae,ae,af h1,af h2] at this;exact this
theorem cD.same {rows R R':LR9} {n:Nat} {ps ps':List Nat} (h:cD rows n R ps) (h':cD rows n R' ps'):R=R'/\ps=ps':=h.uniq h' (λ_ hi=>fB.row hi) (λ_ hi=>fB.row hi)
open PySem PySem.Spec PyProof.Rows
def JK (l:Addr) (H:Hp) (zs:List Int) (v:V):Prop:=∃q,v=V.ref q/\q≠l/\H q=some (.lst (zs.map V.int))
def vO (l:Addr) (H:Hp) (p:Addr) (ls:List (List Int)):Prop:=p≠l/\∃xs,H p=some (.lst xs)/\Paired (JK l H) ls xs
theorem JK.same {l:Addr} {H H':Hp} {zs:List Int} {v:V} (h:JK l H zs v) (e:aE H H'):JK l H' zs v:=by obtain ⟨q,a,n,b⟩:=h;exact ⟨q,a,n,e _ _ b⟩
theorem JK.upd {l:Addr} {H:Hp} {zs:List Int} {v:V} {o:HO} (h:JK l H zs v):JK l (upd H l o) zs v:=by obtain ⟨q,a,n,b⟩:=h;exact ⟨q,a,n,by rw[bH n];exact b⟩
theorem vO.upd {l:Addr} {H:Hp} {p:Addr} {ls:List (List Int)} {o:HO} (h:vO l H p ls):vO l (upd H l o) p ls:=by obtain ⟨n,xs,a,b⟩:=h;exact ⟨n,xs,by rw[bH n];exact a,Paired.imp' (λ_ _ z=>z.upd) b⟩
theorem ne_old {H:Hp} {l r:Addr} (h:H l≠none) (n:H r=none):r≠l:=λz=>h (by rw[<- z];exact n)
theorem lQ {α β:Type} {F:α->β->Prop}:∀{l1:List α} {l2:List β} (_:Paired F l1 l2) (i:Nat) {x:α} {y:β},F x y->Paired F (l1.set i x) (l2.set i y)
 | _,_,.nil,_,_,_,_=>.nil
 | _,_,.cons _ r,0,_,_,h=>.cons h r
 | _,_,.cons a r,i+1,_,_,h=>.cons a (lQ r i h)
theorem K3 {ls:List (List Int)} {i c:Nat} {zs:List Int} (h:ls[i]?=some zs):fv ls i c=((zs.getD c 0:Int):Rat):=by
 unfold fv;rw[ae (l:=ls),h];rfl
theorem SM {z:Int}:((z:Int):Rat)≠0↔z≠0:=⟨λh e=>h (by rw[e];rfl),λh e=>h (vH e)⟩
theorem Bj {zs:List Int} {c:Nat} (h:c < zs.length):IA (zs.map V.int) (c:Int)=some (V.int (zs.getD c 0)):=fF (by rw[aM,ae,af h];rfl)
inductive Dx (vs:List V) (H:Hp) (Q:VK) (E9:XK):Prop
 | mk (l p:Addr) (ls:List (List Int)) (b c:Nat):vs=[.ref p,.int b,.int c]->vO l H p ls->ls.length<=1000->b<=1000->(∀zs∈ls,c < zs.length)->(∀t:Nat,b<=t->t < ls.length->fv ls t c≠0->Q (.int t) H)->((∀t,b<=t->t < ls.length->fv ls t c=0)->Q .non H)->Dx  vs H Q E9
inductive Ai (vs:List V) (H:Hp) (Q:VK) (E9:XK):Prop
 | mk (l p:Addr) (ls:List (List Int)) (t k:Nat):vs=[.ref p,.int t,.int k]->H l≠none->vO l H p ls->ls.length<=1000->t < ls.length->k < ls.length->(∀r H',H r=none->aE H H'->vO l H' r (sN ls k t)->Q (.ref r) H')->Ai  vs H Q E9
inductive Dy (vs:List V) (H:Hp) (Q:VK) (E9:XK):Prop
 | mk (l p:Addr) (ls:List (List Int)) (k c n:Nat) (b:Int):vs=[.ref p,.int k,.int c,.int b]->H l≠none->vO l H p ls->ls.length<=1000->k < ls.length->(∀zs∈ls,zs.length=n)->n<=1000->c < n->b≠0->Sz 8999 b->(∀zs∈ls,∀z∈zs,Sz 8999 z)->(∀r H',H r=none->aE H H'->vO l H' r (GU ls k c b)->Q (.ref r) H')->Dy  vs H Q E9
theorem LG (K:FG9) {X:Cx} {a b:Expr} {ta:TA} {p pos tpos:Pos} {elts:List Expr} {kk:Nat} (hg:Gl X "zip") (hm:X.mg "zip"=none) (ha:PA X [a,b] ta) (hK:X.K=K:=by rfl) (hs:starEach [a,b] X.env=[(false,eval a X.env),(false,eval b X.env)]:=by rfl) (hs2:starEach [b] X.env=[(false,eval b X.env)]:=by rfl) :
  PI X (.Tuple elts kk tpos) (.Call (.Name "zip" p) [a,b] [] pos) (Qs K ta):=by subst hK;exact wd hg hm ha hs hs2
def nF (ps:List Nat):List V:=ps.map λ(j:Nat)=>V.int (j:Int)
inductive Dl (K:FG9) (vs:List V) (H:Hp) (Q:VK) (E9:XK):Prop
 | mk (p:Addr) (n w:Nat) (H0:Hp) (rows:LR9):vs=[.ref p,.int n]->bP K H0 H p rows->rows.length<=100->n<=100->(∀xs∈rows,xs.length=n)->Hq rows n w->(∀t lp qp R ps d ls H',H' t=some (.tup [.ref lp,.ref qp])->H' qp=some (.lst (nF ps))->vO qp H' lp ls->aE H H'->S8 rows n w R ps d ls->Q (.ref t) H')->Dl K vs H Q E9
inductive Ah (K:FG9) (vs:List V) (H:Hp) (Q:VK) (E9:XK):Prop
 | mk (p:Addr) (n w:Nat) (H0:Hp) (rows:LR9):vs=[.ref p,.int n]->bP K H0 H p rows->rows.length<=100->n<=100->(∀xs∈rows,xs.length=n)->Hq rows n w->(∀r R ps M H',H r=none->aE H H'->bP K H H' r R->cD rows n R ps->ps.length<=rows.length->0 < M->M<=2^(min rows.length n*(w+4))->(∀xs∈R,∀x∈xs,Tp M (2^(min rows.length n*(w+4))) x)->Q (.ref r) H')->Ah K vs H Q E9
def MI (rows:LR9) (i:Nat):Rat:=((iJ ((rows.getD i []).map nm):Int):Rat)
section
variable {rows rs rs':LR9} {n P w a:Nat} {ps:List Nat}
end
theorem Pj {M W:Nat} {x:Rat} (h:Tp M W x) (h0:0 < M) (h1:M<=2^3995) (h2:W<=2^3995):ug x:=by
 refine ⟨?_,?_⟩
 ·obtain ⟨s,e,b⟩:=Ee h h0 (kI x) (Int.dvd_refl _) (Bn h);have e2:(((nm x).1:Int):Rat)=(s:Rat):=by rw[<- e];exact sZ x
  rw[dX.mp e2];exact bJ (ai b h2) (d7 (by decide) (by decide))
 ·have:=ko h0 (AL.mp (Bn h));show ((x.den:Nat):Int).natAbs < _
  rw[cg];exact bJ (ai this h1) (d7 (by decide) (by decide))
theorem Tp.mul {M W M' W':Nat} {x y:Rat} (h:Tp M W x) (h':Tp M' W' y):Tp (M*M') (W*W') (x*y):=by
 obtain ⟨z,e,b⟩:=h;obtain ⟨z',e',b'⟩:=h';refine ⟨z*z',?_,by rw[dg];exact aJ b b'⟩;rw[aW,<- e,<- e',eT];grind
inductive zG (K:FG9) (vs:List V) (H:Hp) (Q:VK) (E9:XK):Prop
 | mk (p q:Addr) (xs ys:List Rat):vs=[.ref p,.ref q]->cw K H p xs->cw K H q ys->ys.length=xs.length->xs.length<=1000->(∀x∈xs,ug x)->(∀y∈ys,ug y)->(∀r H',H r=none->aE H H'->cw K H' r (List.zipWith (λx y=>x - y) xs ys)->Q (.ref r) H')->zG K vs H Q E9
theorem HD {xs ys:List Rat} (h:ys.length=xs.length):List.zipWith (λx y=>x - y) xs ys=(List.range xs.length).map λi=>xs.getD i 0 - ys.getD i 0:=by
 apply iw;intro i;rw[b9,aM];by_cases hi:i < xs.length
 ·rw[dJ hi,af hi,af (show i < ys.length by lia)];simp [ae,af hi,af (show i < ys.length by lia)]
 ·rw[aR (show (List.range xs.length).length<=i by simp;lia),aR (show xs.length<=i by lia)];rfl
theorem zV {K:FG9} {H0 H H':Hp} {q:Addr} {rows:LR9} {vs:List V} (pr:Paired (dF K H0 H) rows vs) (s:aE H H') (n:H q=none) (g:H' q=some (.lst vs)):bP K H0 H' q rows :=
 ⟨vs,g,Paired.imp' (λ_ _ z=>z.same s) pr,λz=>by
  obtain ⟨_,_,q',e,_,_,g',_⟩:=cM pr z;cases e;rw[n] at g';cases g'⟩
theorem cD.le {rows R:LR9} {n:Nat} {ps:List Nat} (h:cD rows n R ps):ps.length<=n:=by
 obtain ⟨_,_,rr⟩:=h;rcases cN n ps.length with z | z
 ·have inc:∀j,j < ps.length->j<=ps.getD j 0:=by
   intro j
   induction j with
   | zero=>intro _;exact bx _
   | succ j ih =>
    intro hj;have:=ih (by lia);have:=rr.inc j (j+1) (by lia) hj
    lia
  have h1:=inc (ps.length - 1) (by lia);have h2:=rr.low (ps.length - 1) (by lia)
  lia
 ·exact z
theorem Tp.zero {M W:Nat}:Tp M W 0:=⟨0,by simp,by simp⟩
theorem Tp.add {M W W':Nat} {x y:Rat} (h:Tp M W x) (h':Tp M W' y):Tp M (W+W') (x+y):=by
 obtain ⟨z,e,b⟩:=h;obtain ⟨z',e',b'⟩:=h';refine ⟨z+z',?_,ai (Int.natAbs_add_le _ _) (Nat.add_le_add b b')⟩;rw[CG,<- e,<- e'];grind
theorem Tp.sum {M W:Nat} {f:Nat->Rat}:∀{k:Nat},(∀j,j < k->Tp M W (f j))->Tp M (k*W) (b7 k f)
 | 0,_=>Tp.zero
 | k+1,h=>by
  have:=(Tp.sum (k:=k) λj hj=>h j (by lia)).add (h k (by lia));exact this.mono (by rw[dI];exact ak _)
theorem mi {M W:Nat} {xs:List Rat} (h:∀x∈xs,Tp M W x) (c:Nat):Tp M W (xs.getD c 0):=by
 by_cases hc:c < xs.length
 ·exact h _ (getD_in hc)
 ·rw[ae,aR (by lia)];exact Tp.zero
theorem Q3 {M W:Nat} {R:LR9} (h:∀xs∈R,∀x∈xs,Tp M W x) (i c:Nat):Tp M W (cZ R i c):=by
 unfold cZ;by_cases hi:i < R.length
 ·exact mi (h _ (getD_in hi)) c
 ·rw[ae (l:=R),aR (by lia)];exact Tp.zero
theorem BO {α β:Type} {F:α->β->Prop}:∀{l1:List α} {l2:List β},Paired F l1 l2->Paired F l1.reverse l2.reverse
 | _,_,.nil=>.nil
 | _,_,.cons a r=>by rw[zy,zy];exact bW (BO r) (.cons a .nil)
theorem Mb {j:Nat} {ps:List Nat}:Sw (.int (j:Int)) (nF ps)=decide (j∈ps):=by
 unfold Sw nF;rw[List.any_map,o5,List.any_eq_true,decide_eq_true_iff];constructor
 ·rintro ⟨x,hx,e⟩;have e:((x:Int) == (j:Int))=true:=e;have:(x:Int)=j:=by simpa using e
  have:x=j:=by lia
  rw[<- this];exact hx
 ·intro h;exact ⟨j,h,by show ((j:Int) == (j:Int))=true;simp⟩
theorem Kl {ps:List Nat}:(nF ps).all p7=true:=by
 unfold nF;rw[List.all_map];exact sL.mpr λ_ _=>rfl
theorem LP {ps:List Nat}:(nF ps).length=ps.length:=ao ..
theorem Og {ps:List Nat} {i:Nat} {v:V} (h:(nF ps)[i]?=some v):∃j,ps[i]?=some j/\v=V.int (j:Int):=by
 unfold nF at h;rw[aM] at h;cases e:ps[i]? with
 | none=>rw[e] at h;cases h
 | some x=>rw[e] at h;exact ⟨x,rfl,(ck h).symm⟩
section
variable {R rows:LR9} {ps:List Nat} {n a j:Nat}
theorem gP:∀{xs ys:List Rat},xs.length=ys.length->eC xs ys=b7 xs.length λc=>xs.getD c 0*ys.getD c 0:=by
 intro xs ys h
 have key:∀k,k<=xs.length->eC (xs.take k) (ys.take k)=b7 k λc=>xs.getD c 0*ys.getD c 0:=by
  intro k
  induction k with
  | zero=>intro _;rfl
  | succ k ih =>
   intro hk;rw[DN (by lia) (by lia),ih (by lia)];rfl
 have:=key xs.length (ak _);rwa [aG (ak _),aG (by lia)] at this
end
theorem Jy {q:Rat} (h:q.den<=9):q.den∣2520:=by
 have:=q.den_pos;generalize q.den=d at h this;have:d=1\/d=2\/d=3\/d=4\/d=5\/d=6\/d=7\/d=8\/d=9:=by lia
 rcases this with rfl | rfl | rfl | rfl | rfl | rfl | rfl | rfl | rfl <;> decide
theorem Mw {q:Rat} {M:Nat} (h:Dr 9 q) (hM:2520∣M):Fr M 9 q:=(Fr.own q h.1).dvd (gD (Jy h.2) hM)
def dh (rows:LR9) (due:List Rat):LR9:=List.zipWith (λrow d=>row++[d]) rows due
def yl (R:LR9) (ps:List Nat) (n j:Nat):List Rat:=(List.range n).map λc=>b7 j λi=>if ps.getD i 0=c then cZ R i n else 0
def gG (R:LR9) (ps:List Nat) (n:Nat):List Rat:=yl R ps n ps.length
section
variable {rows R:LR9} {due xs:List Rat} {ps:List Nat} {n j:Nat}
theorem rL (h:due.length=rows.length):(dh rows due).length=rows.length:=by unfold dh;rw[cX];lia
theorem yJ (h:∀xs∈rows,xs.length=n):∀xs∈dh rows due,xs.length=n+1:=λxs hx=>by
 unfold dh at hx;obtain ⟨i,hi,rfl⟩:=bX hx;rw[lC,av,h _ (aT _)];rfl
theorem OW {i:Nat} {row:List Rat} {d:Rat} (h1:rows[i]?=some row) (h2:due[i]?=some d):(dh rows due)[i]?=some (row++[d]):=by
 unfold dh;rw[b9,h1,h2]
theorem Ao (hd:due.length=rows.length) (hw:∀xs∈rows,xs.length=n) {i:Nat} (hi:i < rows.length):(∀c,c < n->cZ (dh rows due) i c=cZ rows i c)/\cZ (dh rows due) i n=due.getD i 0:=by
 have e1:=af hi;have e2:=af (show i < due.length by lia);have ej:=OW e1 e2;have wi:=hw _ (aT hi);refine ⟨λc hc=>?_,?_⟩
 ·unfold cZ;rw[ae (l:=dh rows due),ej,ae (l:=rows),e1];show (rows[i]++[due[i]]).getD c 0=(rows[i]).getD c 0
  rw[ae,ae,bA (by lia)]
 ·unfold cZ;rw[ae (l:=dh rows due),ej,ae (l:=due),e2];show (rows[i]++[due[i]]).getD n 0=due[i]
  rw[ae,ba (by lia),wi,fP];rfl
theorem lF:(yl R ps n j).length=n:=by unfold yl;rw[ao,cE]
theorem Li {c:Nat} (h:c < n):(yl R ps n j).getD c 0=b7 j λi=>if ps.getD i 0=c then cZ R i n else 0:=by
 unfold yl;rw[ae,aM,dJ h];rfl
theorem Nl:yl R ps n 0=List.replicate n 0:=by
 unfold yl;show (List.range n).map (λ_=>(0:Rat))=_
 rw[CH,cE]
theorem Nn {J:LR9} (RR:cD J (n+1) R ps) (hj:j < ps.length):(yl R ps n j).set (ps.getD j 0) (cZ R j n)=yl R ps n (j+1):=by
 obtain ⟨_,_,rr⟩:=RR;apply ee (by rw[dY,lF,lF]);intro c h1 h2;rw[lF] at h2;have e1:(yl R ps n j)[c]'(by rw[lF];exact h2)=b7 j λi=>if ps.getD i 0=c then cZ R i n else 0:=by simp only[yl,AK,List.getElem_range]
 have e2:(yl R ps n (j+1))[c]'(by rw[lF];exact h2)=b7 j (λi=>if ps.getD i 0=c then cZ R i n else 0)+if ps.getD j 0=c then cZ R j n else 0:=by simp only[yl,AK,List.getElem_range];rfl
 rw[List.getElem_set,e2];by_cases q:ps.getD j 0=c
 ·rw[if_pos q,if_pos q,dZ λi hi=>?_,Rat.zero_add];rw[if_neg];intro z;have:=rr.inc i j hi hj
  lia
 ·rw[if_neg q,if_neg q,e1,xf]
theorem Nq {c:Nat} (hp:c∉ps):(gG R ps n).getD c 0=0:=by
 by_cases hc:c < n
 ·unfold gG;rw[Li hc,dZ λi hi=>?_];rw[if_neg (λz=>hp (by rw[<- z];exact getD_in hi))]
 ·rw[ae,aR (by unfold gG;rw[lF];lia)];rfl
theorem HH (hd:due.length=rows.length) (hw:∀xs∈rows,xs.length=n) (RR:cD (dh rows due) (n+1) R ps) (hn:n∉ps) {i:Nat} {row:List Rat} (hr:rows[i]?=some row):eC row (gG R ps n)=due.getD i 0:=by
 obtain ⟨_,_,rr⟩:=RR;have hi:=(aB.mp hr).1;have wr:=hw row (aw hr);have ef:∀c,cZ rows i c=row.getD c 0:=λc=>by unfold cZ;rw[ae (l:=rows),hr];rfl
 obtain ⟨f1,f2⟩:=Ao hd hw hi
 have low:∀j,j < ps.length->ps.getD j 0 < n:=λj hj=>by
  have:=rr.low j hj;have:ps.getD j 0≠n:=λz=>hn (by rw[<- z];exact getD_in hj)
  lia
 have co:=rr.coef (rr.span i (by rw[rL hd];exact hi)) n;rw[f2] at co;rw[co,gP (by unfold gG;rw[lF,wr]),wr]
 have e1:b7 n (λc=>row.getD c 0*(gG R ps n).getD c 0)=b7 n (λc=>b7 ps.length λj=>if ps.getD j 0=c then row.getD (ps.getD j 0) 0*cZ R j n else 0):=by
  refine bE λc hc=>?_
  unfold gG;rw[Li hc,<- dM];refine bE λj _=>?_
  split
  ·rename_i q;rw[q]
  ·grind
 rw[e1,<- lE];refine bE λj hj=>?_
 rw[jv (i:=ps.getD j 0) (low j hj) λc _ ne=>if_neg λz=>ne z.symm,if_pos rfl,f1 _ (low j hj),ef]
theorem FV (hd:due.length=rows.length) (hw:∀xs∈rows,xs.length=n) (RR:cD (dh rows due) (n+1) R ps) (hn:n∈ps):∃w:Nat->Rat,(∀c,c < n->b7 rows.length (λi=>w i*cZ rows i c)=0)/\b7 rows.length (λi=>w i*due.getD i 0)=1:=by
 obtain ⟨_,_,rr⟩:=RR;obtain ⟨j,hj,ej⟩:=bX hn;have ejD:ps.getD j 0=n:=by rw[ae,af hj];exact ej
 obtain ⟨w,hw'⟩:=rr.back j hj;rw[rL hd] at hw';refine ⟨w,λc hc=>?_,?_⟩
 ·have z:=rr.lead j hj c (by rw[ejD];exact hc);rw[hw' c] at z;rw[<- z];exact bE λi hi=>by rw[(Ao hd hw hi).1 c hc]
 ·have u:=rr.unit j hj j hj;rw[if_pos rfl,ejD,hw' n] at u;rw[<- u];exact bE λi hi=>by rw[(Ao hd hw hi).2]
theorem Pq (hd:due.length=rows.length) (hw:∀xs∈rows,xs.length=n) (RR:cD (dh rows due) (n+1) R ps) {x:Nat->Rat} (hx:∀i,i < rows.length->b7 n (λc=>cZ rows i c*x c)=due.getD i 0):n∉ps:=λhn=>by
 obtain ⟨w,h1,h2⟩:=FV hd hw RR hn
 have e1:b7 rows.length (λi=>w i*due.getD i 0)=b7 rows.length (λi=>b7 n λc=>x c*(w i*cZ rows i c)):=bE λi hi=>by
  rw[<- hx i hi,<- dM];exact bE λc _=>by grind
 have e2:b7 n (λc=>b7 rows.length λi=>x c*(w i*cZ rows i c))=0:=dZ λc hc=>by
  rw[dM,h1 c hc];grind
 rw[e1,lE,e2] at h2;exact absurd h2 (by decide)
theorem Rn {M W:Nat} (h0:0 < M) (tp:∀xs∈R,∀x∈xs,Tp M W x) {J:LR9} (RR:cD J (n+1) R ps):∀x∈gG R ps n,Tp M W x:=λx hx=>by
 obtain ⟨_,_,rr⟩:=RR;obtain ⟨c,hc,rfl⟩:=aH.mp hx;by_cases hp:∃j,j < ps.length/\ps.getD j 0=c
 ·obtain ⟨j,hj,e⟩:=hp;rw[jv hj λi hi ne=>if_neg λz=>?_,if_pos e]
  ·exact Q3 tp j n
  ·rcases lh i j with q | q | q
   ·have:=rr.inc i j q hj;lia
   ·exact ne q
   ·have:=rr.inc j i q hi;lia
 ·rw[dZ λj hj=>if_neg λz=>hp ⟨j,hj,z⟩];exact Tp.zero
end
inductive Br (K:FG9) (vs:List V) (H:Hp) (Q:VK) (E9:XK):Prop
 | mk (p q:Addr) (n w:Nat) (H0:Hp) (rows:LR9) (due:List Rat):vs=[.ref p,.int n,.ref q]->bP K H0 H p rows->cw K H q due->due.length=rows.length->rows.length<=99->n<=99->(∀xs∈rows,xs.length=n)->Hq (dh rows due) (n+1) w->((∀x R ps M H',cD (dh rows due) (n+1) R ps->n∉ps->H x=none->aE H H'->cw K H' x (gG R ps n)->0 < M->M<=2^(min rows.length (n+1)*(w+4))->(∀y∈gG R ps n,Tp M (2^(min rows.length (n+1)*(w+4))) y)->Q (.ref x) H')/\(∀R ps H',cD (dh rows due) (n+1) R ps->n∈ps->aE H H'->Q .non H'))->Br K vs H Q E9
def Lb (rows:LR9) (n:Nat) (due:List Rat):LR9:=dh (cW rows n++[due]) (List.replicate n 0++[1])
inductive Dp (K:FG9) (vs:List V) (H:Hp) (Q:VK) (E9:XK):Prop
 | mk (p q:Addr) (n w w':Nat) (H0:Hp) (rows:LR9) (due:List Rat):vs=[.ref p,.int n,.ref q]->bP K H0 H p rows->cw K H q due->due.length=rows.length->rows.length<=90->n<=90->(∀xs∈rows,xs.length=n)->Hq (dh rows due) (n+1) w->Hq (Lb rows n due) (rows.length+1) w'->((∀t x R ps M H',cD (dh rows due) (n+1) R ps->n∉ps->H' t=some (.tup [.str (Str.ofString "yes"),.ref x])->H x=none->aE H H'->cw K H' x (gG R ps n)->0 < M->M<=2^(min rows.length (n+1)*(w+4))->(∀y∈gG R ps n,Tp M (2^(min rows.length (n+1)*(w+4))) y)->Q (.ref t) H')/\(∀t x R ps R' ps' M H',cD (dh rows due) (n+1) R ps->n∈ps->cD (Lb rows n due) (rows.length+1) R' ps'->rows.length∉ps'->H' t=some (.tup [.str (Str.ofString "no"),.ref x])->H x=none->aE H H'->cw K H' x (gG R' ps' rows.length)->0 < M->M<=2^(min (n+1) (rows.length+1)*(w'+4))->(∀y∈gG R' ps' rows.length,Tp M (2^(min (n+1) (rows.length+1)*(w'+4))) y)->Q (.ref t) H'))->Dp K vs H Q E9
theorem Ka {rows R R':LR9} {due:List Rat} {ps ps':List Nat} {n:Nat} (hd:due.length=rows.length) (hw:∀xs∈rows,xs.length=n) (RR:cD (dh rows due) (n+1) R ps) (hn:n∈ps) (RR':cD (Lb rows n due) (rows.length+1) R' ps'):rows.length∉ps':=by
 obtain ⟨w,h1,h2⟩:=FV hd hw RR hn;have l1:(cW rows n++[due]).length=n+1:=by rw[av,du];rfl
 have w1:∀xs∈cW rows n++[due],xs.length=rows.length:=λxs hx=>by
  rcases ay.mp hx with hx | hx
  ·exact lD xs hx
  ·rw[bN.mp hx];exact hd
 refine Pq (x:=w) (by rw[l1,av,aI];rfl) w1 RR' λi hi=>?_
 rw[l1] at hi;by_cases e:i < n
 ·have e1:∀c,cZ (cW rows n++[due]) i c=cZ rows c i:=λc=>by
   unfold cZ;rw[ae (l:=cW rows n++[due]),bA (by rw[du];exact e)];unfold cW;rw[aM,dJ e];show (rows.map λxs=>xs.getD i 0).getD c 0=_
   rw[ae,aM,ae (l:=rows)];cases rows[c]? with
   | none=>rfl
   | some y=>rfl
  have e2:(List.replicate n (0:Rat)++[1]).getD i 0=0:=by
   rw[ae,bA (by rw[aI];exact e),fG,if_pos e];rfl
  rw[e2,<- h1 i e];exact bE λc _=>by rw[e1];grind
 ·have ei:i=n:=by lia
  subst ei
  have e1:∀c,cZ (cW rows i++[due]) i c=due.getD c 0:=λc=>by
   unfold cZ;rw[ae (l:=cW rows i++[due]),ba (by rw[du];exact ak _),du,fP];rfl
  have e2:(List.replicate i (0:Rat)++[1]).getD i 0=1:=by
   rw[ae,ba (by rw[aI];exact ak _),aI,fP];rfl
  rw[e2,<- h2];exact bE λc _=>by rw[e1];grind
theorem LW {n:Nat}:((List.range n).map λ_=>(0:Rat))=List.replicate n 0:=by rw[CH,cE]
def Pn (K:FG9):Sp:=λvs H Q _=>∃m:Nat,vs=[.int m]/\m<=100/\∀r H',H r=none->aE H H'->cw K H' r (List.replicate m 0)->Q (.ref r) H'
inductive Ag (K:FG9) (vs:List V) (H:Hp) (Q:VK) (E9:XK):Prop
 | mk (p q:Addr) (n w w':Nat) (H0:Hp) (rows:LR9) (row:List Rat):vs=[.ref p,.int n,.ref q]->bP K H0 H p rows->cw K H q row->row.length=n->rows.length<=90->n<=90->(∀xs∈rows,xs.length=n)->Hq (dh (cW rows n) row) (rows.length+1) w->Hq (dh (rows++[row]) (List.replicate rows.length 0++[1])) (n+1) w'->((∀t x R ps M H',cD (dh (cW rows n) row) (rows.length+1) R ps->rows.length∉ps->H' t=some (.tup [.str (Str.ofString "in"),.ref x])->H x=none->aE H H'->cw K H' x (gG R ps rows.length)->0 < M->M<=2^(min n (rows.length+1)*(w+4))->(∀y∈gG R ps rows.length,Tp M (2^(min n (rows.length+1)*(w+4))) y)->Q (.ref t) H')/\(∀t x R ps R' ps' M H',cD (dh (cW rows n) row) (rows.length+1) R ps->rows.length∈ps->cD (dh (rows++[row]) (List.replicate rows.length 0++[1])) (n+1) R' ps'->n∉ps'->H' t=some (.tup [.str (Str.ofString "out"),.ref x])->H x=none->aE H H'->cw K H' x (gG R' ps' n)->0 < M->M<=2^(min (rows.length+1) (n+1)*(w'+4))->(∀y∈gG R' ps' n,Tp M (2^(min (rows.length+1) (n+1)*(w'+4))) y)->Q (.ref t) H'))->Ag K vs H Q E9
def Sr (rows:LR9) (ws:List Rat) (n j:Nat):List Rat:=(List.range n).map λc=>b7 j λi=>ws.getD i 0*cZ rows i c
def Pc (rows:LR9) (ws:List Rat) (n:Nat):List Rat:=Sr rows ws n ws.length
section
variable {rows:LR9} {ws xs row:List Rat} {n j:Nat}
theorem Pb:(Sr rows ws n j).length=n:=by unfold Sr;rw[ao,cE]
theorem IM {c:Nat} (hc:c < n):(Pc rows ws n).getD c 0=b7 ws.length λi=>ws.getD i 0*cZ rows i c:=by
 unfold Pc Sr;rw[ae,aM,dJ hc];rfl
theorem GN (h:xs.length=ws.length):eC xs ws=eC ws xs:=by
 rw[gP h,gP h.symm,h];exact bE λc _=>fw ..
theorem Bm {c:Nat} (hc:c < n):(cW rows n)[c]?=some (rows.map λxs=>xs.getD c 0):=by
 unfold cW;rw[aM,dJ hc];rfl
theorem Qj {c i:Nat}:(rows.map λxs=>xs.getD c 0).getD i 0=cZ rows i c:=by
 unfold cZ;rw[ae,aM,ae (l:=rows)];cases rows[i]? with
 | none=>rfl
 | some y=>rfl
theorem JP {R:LR9} {ps:List Nat} (hl:row.length=n) (RR:cD (dh (cW rows n) row) (rows.length+1) R ps) (hn:rows.length∉ps):Pc rows (gG R ps rows.length) n=row:=by
 have ls:(gG R ps rows.length).length=rows.length:=lF;apply ee (by unfold Pc;rw[Pb,hl]);intro c h1 h2;have hc:c < n:=by lia
 have d:=HH (rows:=cW rows n) (by rw[du,hl]) (λxs hx=>lD xs hx) RR hn (Bm hc);have e:=IM (rows:=rows) (ws:=gG R ps rows.length) hc;have e1:(Pc rows (gG R ps rows.length) n).getD c 0=(Pc rows (gG R ps rows.length) n)[c]:=by rw[ae,af h1];rfl
 have e2:row.getD c 0=row[c]:=by rw[ae,af h2];rfl
 rw[<- e1,<- e2,e,<- d,gP (by rw[ao,ls]),ao,ls];exact bE λi _=>by rw[Qj];grind
theorem J9 {R:LR9} {ps:List Nat} (hw:∀xs∈rows,xs.length=n) (hl:row.length=n) (RR:cD (dh (rows++[row]) (List.replicate rows.length 0++[1])) (n+1) R ps) (hn:n∉ps):eC (gG R ps n) row=1/\∀xs∈rows,eC xs (gG R ps n)=0:=by
 have l1:(List.replicate rows.length (0:Rat)++[1]).length=(rows++[row]).length:=by rw[av,av,aI];rfl
 have w1:∀xs∈rows++[row],xs.length=n:=λxs hx=>by
  rcases ay.mp hx with hx | hx
  ·exact hw xs hx
  ·rw[bN.mp hx];exact hl
 have ls:(gG R ps n).length=n:=lF;refine ⟨?_,λxs hx=>?_⟩
 ·have:=HH l1 w1 RR hn (i:=rows.length) (row:=row) (by rw[ba (ak _),fP];rfl);rw[GN (by rw[ls,hl]),this,ae,ba (by rw[aI];exact ak _),aI,fP];rfl
 ·obtain ⟨i,hi,rfl⟩:=bX hx;have:=HH l1 w1 RR hn (i:=i) (row:=rows[i]) (by rw[bA hi,af hi]);rw[this,ae,bA (by rw[aI];exact hi),fG,if_pos hi];rfl
end
theorem Fr.up {M V M' V':Nat} {x:Rat} (h:Fr M V x) (hd:M∣M') (hv:V<=V'):Fr M' V' x:=(h.dvd hd).mono hv
section
variable {rows R:LR9} {due:List Rat} {ps:List Nat} {n:Nat}
theorem Oq {xs ys:List Rat} {M V D B:Nat} (h:ys.length=xs.length) (hx:∀x∈xs,Fr M V x) (hy:∀y∈ys,Fr D B y):Fr (M*D) (xs.length*(V*B)) (eC xs ys):=by
 rw[gP h.symm]
 have key:∀j,j<=xs.length->Fr (M*D) (j*(V*B)) (b7 j λc=>xs.getD c 0*ys.getD c 0):=by
  intro j
  induction j with
  | zero=>intro _;exact Fr.zero
  | succ j ih =>
   intro hj;exact ((ih (by lia)).add ((hx _ (getD_in (by lia))).mul (hy _ (getD_in (by lia))))).mono (Nat.le_of_eq (dI j (V*B)).symm)
 exact key _ (ak _)
end
def KJ (K:FG9) (P:Addr->Prop) (H:Hp) (xs:List Rat) (v:V):Prop:=∃q,v=.ref q/\P q/\cw K H q xs
section
variable {K:FG9} {P:Addr->Prop} {H H':Hp} {xs:List Rat} {v:V} {b l:Addr}
theorem KJ.updL {ys:List V} {o:HO} (h:KJ K P H xs v) (hl:H l=some (.lst ys)) (nb:∀q,P q->q≠l):KJ K P (upd H l o) xs v:=by obtain ⟨q,a,c,d⟩:=h;exact ⟨q,a,c,d.updL hl (nb q c)⟩
theorem bP.ofE {H0:Hp} {rows:LR9} {us:List V} (g:H l=some (.lst us)) (h:Paired (KJ K P H) rows us) (h0:∀q,P q->H0 q=none) (hn:∀q,P q->q≠l):bP K H0 H l rows :=
 ⟨us,g,Paired.imp' (λ_ _ ⟨q,a,c,d⟩=>⟨q,a,h0 q c,d⟩) h,λz=>by
  obtain ⟨_,_,q,e,c,_⟩:=cM h z;cases e;exact hn _ c rfl⟩
end
theorem ve {α β:Type} {F G:α->β->Prop}:∀{l1:List α} {l2:List β},(∀a b,b∈l2->F a b->G a b)->Paired F l1 l2->Paired G l1 l2
 | _,_,_,.nil=>.nil
 | _,_,h,.cons a r=>.cons (h _ _ (by simp) a) (ve (λx y hy=>h x y (by simp [hy])) r)
section
variable {rows rows' R R':LR9} {n w W:Nat} {ps ps':List Nat}
theorem Dj (hw:∀xs∈rows,xs.length=n) (hW:1<=W) (ent:∀i,i < (rows.map nD).length->∀c,Fr 1 W (fv (rows.map nD) i c)):∀P,P<=n->∃ls ps d,D6 (rows.map nD) n P ls ps d:=by
 intro P
 induction P with
 | zero=>intro _;exact ⟨_,_,_,D6.start λzs hz=>by obtain ⟨x,hx,rfl⟩:=aH.mp hz;rw[yh];exact hw x hx⟩
 | succ P ih =>
  intro hP;obtain ⟨ls,ps,d,I⟩:=ih (by lia);by_cases e:∃t,ps.length<=t/\t < ls.length/\fv ls t P≠0
  ·obtain ⟨t,h1,h2,h3⟩:=e;exact ⟨_,_,_,I.step hW ent h1 h2 h3⟩
  ·exact ⟨_,_,_,I.skip λi h1 h2=>by
    by_cases z:fv ls i P=0
    ·exact z
    ·exact absurd ⟨i,h1,h2,z⟩ e⟩
theorem J7 (hw:∀xs∈rows,xs.length=n) (F:Hq rows n w):∃R ps d ls,S8 rows n w R ps d ls:=by
 obtain ⟨W,hW,W2,ent⟩:=F.ent;obtain ⟨ls,ps,d,I⟩:=Dj hw hW ent n (ak _);obtain ⟨R,S⟩:=I.done hw F;exact ⟨R,ps,d,_,S⟩
theorem RA (hw:∀xs∈rows,xs.length=n) (F:Hq rows n w) (RR:cD rows n R ps):ps.length<=rows.length/\∃M,0 < M/\M<=2^(min rows.length n*(w+4))/\∀xs∈R,∀x∈xs,Tp M (2^(min rows.length n*(w+4))) x:=by
 obtain ⟨R2,ps2,d,ls,S⟩:=J7 hw F;obtain ⟨rfl,rfl⟩:=S.rr.same RR;exact ⟨S.km,d.natAbs,Int.natAbs_pos.mpr S.d0,S.dsz,S.tp⟩
theorem Kw {k:Nat} {p q:Nat->Nat} (hp:∀i j,i < j->j < k->p i < p j) (hq:∀i j,i < j->j < k->q i < q j) (hs:∀i,i < k->∃j,j < k/\q j=p i):∀i,i < k->p i=q i:=by
 have hqm:∀i j,i<=j->j < k->q i<=q j:=λi j h hj=>by
  rcases cN i j with z | z
  ·exact bc (hq i j z hj)
  ·have:i=j:=by lia
   rw[this];exact ak _
 have hqi:∀i j,i < k->j < k->q i < q j->i < j:=λi j hi hj h=>by
  rcases cN i j with z | z
  ·exact z
  ·have:=hqm j i z hi
   lia
 have key:∀i,i < k->∀j,j < k->q j=p i->i<=j:=by
  intro i
  induction i with
  | zero=>intro _ j _ _;exact bx _
  | succ i ih =>
   intro hi j hj e;obtain ⟨j',hj',e'⟩:=hs i (by lia);have h1:=ih (by lia) j' hj' e';have h2:=hp i (i+1) (by lia) hi;have:=hqi j' j hj' hj (by lia)
   lia
 have key2:∀t i,i+t+1=k->∀j,j < k->q j=p i->j<=i:=by
  intro t
  induction t with
  | zero=>intro i e j hj _;lia
  | succ t ih =>
   intro i e j hj ej;obtain ⟨j',hj',e'⟩:=hs (i+1) (by lia);have h1:=ih (i+1) (by lia) j' hj' e';have h2:=hp i (i+1) (by lia) (by lia);have:=hqi j j' hj hj' (by lia)
   lia
 intro i hi;obtain ⟨j,hj,e⟩:=hs i hi;have h1:=key i hi j hj e;have h2:=key2 (k - 1 - i) i (by lia) j hj e;have:j=i:=by lia
 rw[<- e,this]
theorem J6 (h:cD rows n R ps) (h':cD rows' n R' ps') (hl:ps.length=ps'.length) (hs:∀i,i < ps.length->fB ps'.length (cZ R') (cZ R i)):R=R'/\ps=ps':=by
 obtain ⟨l1,w1,r1⟩:=h;obtain ⟨l2,w2,r2⟩:=h'
 have ep:∀i,i < ps.length->ps.getD i 0=ps'.getD i 0:=Kw r1.inc (by rw[hl];exact r2.inc) λi hi=>by
  have u:=r1.unit i hi i hi;rw[if_pos rfl] at u;obtain ⟨j,hj,e⟩:=r2.lead_in (hs i hi) (c:=ps.getD i 0) (by rw[u];decide) (λc hc=>r1.lead i hi c hc);exact ⟨j,by lia,e⟩
 have eps:ps=ps':=by
  apply ee hl;intro i a b;have:=ep i a;rw[ae,ae,af a,af b] at this;exact this
 refine ⟨Mo (n:=n) (by lia) w1 w2 λi hi c=>?_,eps⟩;rw[l1] at hi;rw[r2.coef (hs i hi) c,<- hl,jv hi λj hj hj'=>?_]
 ·rw[<- ep i hi];have u:=r1.unit i hi i hi;rw[if_pos rfl] at u;rw[u];grind
 ·rw[<- ep j hj];have u:=r1.unit i hi j hj;rw[if_neg (Ne.symm hj')] at u;rw[u];grind
end
def uO (mv:LR9) (x:List Rat):List Rat:=mv.map λxs=>eC xs x
def kry (mv pt:LR9):Nat->LR9
 | 0=>[]
 | t+1=>pt++(kry mv pt t).map (uO mv)
section
variable {mv pt R R' S X Y:LR9} {n t m i c:Nat} {ps ps':List Nat} {a:Nat->Nat->Rat}
theorem EB {x:List Rat}:(uO mv x).length=mv.length:=ao ..
theorem LL (lm:mv.length=n) (wm:∀xs∈mv,xs.length=n) (wR:∀xs∈R,xs.length=n) (hi:i < R.length) (c:Nat):cZ (R.map (uO mv)) i c=b7 n λj=>cZ mv c j*cZ R i j:=by
 have wi:=wR _ (aT hi);have e1:(R.map (uO mv)).getD i []=uO mv R[i]:=by rw[ae,aM,af hi];rfl
 have e2:R.getD i []=R[i]:=by rw[ae,af hi];rfl
 by_cases hc:c < n
 ·have wc:=wm _ (aT (show c < mv.length by lia));have e3:mv.getD c []=mv[c]'(by lia):=by rw[ae,af (by lia)];rfl
  have e4:(uO mv R[i]).getD c 0=eC (mv[c]'(by lia)) R[i]:=by
   unfold uO;rw[ae,aM,af (by lia)];rfl
  unfold cZ;rw[e1,e2,e3,e4,gP (by lia),wc]
 ·have e3:mv.getD c []=[]:=by rw[ae,aR (by lia)];rfl
  unfold cZ
  rw[e1,e3,ae,aR (by rw[EB];lia),dZ λj _=>by
   show ([]:List Rat).getD j 0*_=0
   rw[ae];show (0:Rat)*_=0
   grind]
  rfl
theorem HG (lm:mv.length=n) (wm:∀xs∈mv,xs.length=n) (wR:∀xs∈R,xs.length=n) (wS:∀xs∈S,xs.length=n) (hi:i < R.length) (h:fB S.length (cZ S) (cZ R i)):fB (S.map (uO mv)).length (cZ (S.map (uO mv))) (cZ (R.map (uO mv)) i):=by
 obtain ⟨w,hw⟩:=h;refine ⟨w,λc=>?_⟩;rw[LL lm wm wR hi,ao]
 have e1:b7 n (λj=>cZ mv c j*cZ R i j)=b7 n (λj=>b7 S.length λs=>w s*(cZ mv c j*cZ S s j)):=bE λj _=>by
  rw[hw j,<- dM];exact bE λs _=>by grind
 rw[e1,lE];exact bE λs hs=>by rw[dM,LL lm wm wS hs]
theorem MM (h:i < X.length):cZ (X++Y) i=cZ X i:=by
 funext c;unfold cZ;rw[ae (l:=X++Y),bA h,<- ae]
theorem OA:cZ (X++Y) (X.length+i)=cZ Y i:=by
 funext c;unfold cZ;rw[ae (l:=X++Y),ba (by lia),show X.length+i - X.length=i by lia,<- ae]
theorem Eh (h1:∀i,i < X.length->fB m a (cZ X i)) (h2:∀i,i < Y.length->fB m a (cZ Y i)):∀i,i < (X++Y).length->fB m a (cZ (X++Y) i):=λi hi=>by
 rw[av] at hi;by_cases h:i < X.length
 ·rw[MM h];exact h1 i h
 ·obtain ⟨j,rfl⟩:∃j,i=X.length+j:=⟨i - X.length,by lia⟩;rw[OA];exact h2 j (by lia)
theorem Bp (h:i < X.length):fB (X++Y).length (cZ (X++Y)) (cZ X i):=by
 have:=fB.row (a:=cZ (X++Y)) (m:=(X++Y).length) (i:=i) (by rw[av];lia);rwa [MM h] at this
theorem zF {x:Nat->Rat} (h:fB Y.length (cZ Y) x):fB (X++Y).length (cZ (X++Y)) x:=fB.trans (λs hs=>by
 have:=fB.row (a:=cZ (X++Y)) (m:=(X++Y).length) (i:=X.length+s) (by rw[av];lia);rwa [OA] at this) h
theorem iI (lm:mv.length=n) (wp:∀xs∈pt,xs.length=n):∀t,∀xs∈kry mv pt t,xs.length=n:=by
 intro t
 induction t with
 | zero=>intro xs hx;cases hx
 | succ t ih =>
  intro xs hx;rcases ay.mp hx with hx | hx
  ·exact wp xs hx
  ·obtain ⟨y,_,rfl⟩:=aH.mp hx;rw[EB,lm]
theorem Cn (lm:mv.length=n) (wm:∀xs∈mv,xs.length=n) (wp:∀xs∈pt,xs.length=n) (RR:cD (kry mv pt t) n R ps) (RR':cD (pt++R.map (uO mv)) n R' ps'):cD (kry mv pt (t+1)) n R' ps':=by
 have wk:=iI (mv:=mv) lm wp t;refine ⟨RR'.1,RR'.2.1,RR'.2.2.other ?_ ?_⟩
 ·refine Eh (λi hi=>Bp hi) λi hi=>zF ?_
  rw[ao] at hi;exact HG lm wm RR.2.1 wk hi (RR.2.2.back i (by rw[<- RR.1];exact hi))
 ·refine Eh (λi hi=>Bp hi) λi hi=>zF ?_
  rw[ao] at hi;have:=RR.2.2.span i hi;rw[<- RR.1] at this;exact HG lm wm wk RR.2.1 hi this
theorem L4 (lm:mv.length=n) (wm:∀xs∈mv,xs.length=n) (wp:∀xs∈pt,xs.length=n):∀t i,i < (kry mv pt t).length->fB (kry mv pt (t+1)).length (cZ (kry mv pt (t+1))) (cZ (kry mv pt t) i):=by
 intro t
 induction t with
 | zero=>intro i hi;cases hi
 | succ t ih =>
  refine Eh (λi hi=>Bp hi) λi hi=>zF ?_
  rw[ao] at hi;exact HG lm wm (iI lm wp t) (iI lm wp (t+1)) hi (ih i hi)
theorem Cm (lm:mv.length=n) (wm:∀xs∈mv,xs.length=n) (wp:∀xs∈pt,xs.length=n) (RR:cD (kry mv pt t) n R ps) (RR':cD (kry mv pt (t+1)) n R' ps'):∀i,i < ps.length->fB ps'.length (cZ R') (cZ R i):=λi hi =>
 fB.trans (λs hs=>RR'.2.2.span s hs) (fB.trans (L4 lm wm wp t) (RR.2.2.back i hi))
theorem Ks (lm:mv.length=n) (wm:∀xs∈mv,xs.length=n) (wp:∀xs∈pt,xs.length=n) (RR:cD (kry mv pt t) n R ps) (RR':cD (pt++R.map (uO mv)) n R' ps') (hl:ps'.length=ps.length):∀s,cD (kry mv pt (t+s)) n R ps:=by
 have K1:=Cn lm wm wp RR RR';obtain ⟨e1,e2⟩:=J6 RR K1 hl.symm (Cm lm wm wp RR K1);subst e1 e2;intro s
 induction s with
 | zero=>exact RR
 | succ s ih=>exact Cn lm wm wp ih RR'
theorem L5 (lm:mv.length=n) (wm:∀xs∈mv,xs.length=n) (wp:∀xs∈pt,xs.length=n) (RR:cD (kry mv pt t) n R ps) (RR':cD (kry mv pt (t+1)) n R' ps'):ps.length<=ps'.length:=by
 have h:=Cm lm wm wp RR RR'
 have hs:∀i,i < ps.length->∃j,j < ps'.length/\ps'.getD j 0=ps.getD i 0:=λi hi=>by
  have u:=RR.2.2.unit i hi i hi;rw[if_pos rfl] at u;exact RR'.2.2.lead_in (h i hi) (c:=ps.getD i 0) (by rw[u];decide) (λc hc=>RR.2.2.lead i hi c hc)
 rcases cN ps'.length ps.length with z | z
 ·exfalso
  have key:∀i,i < ps.length->∀j,j < ps'.length->ps'.getD j 0=ps.getD i 0->i<=j:=by
   intro i
   induction i with
   | zero=>intro _ j _ _;exact bx _
   | succ i ih =>
    intro hi j hj e;obtain ⟨j',hj',e'⟩:=hs i (by lia);have h1:=ih (by lia) j' hj' e';have h2:=RR.2.2.inc i (i+1) (by lia) hi;rcases cN j' j with y | y
    ·lia
    ·rcases cN j j' with x | x
     ·have:=RR'.2.2.inc j j' x hj'
      lia
     ·have:j=j':=by lia
      rw[this] at e
      lia
  obtain ⟨j,hj,e⟩:=hs (ps.length - 1) (by lia);have:=key (ps.length - 1) (by lia) j hj e
  lia
 ·exact z
theorem L6 {M V c:Nat} (lm:mv.length=n) (wm:∀xs∈mv,xs.length=n) (wp:∀xs∈pt,xs.length=n) (hc:(n+1)*V<=2^c) (fm:GF M V mv) (fp:GF M V pt):∀t,∀xs∈kry mv pt t,∀x∈xs,Fr (M^t) (2^(c*t)) x:=by
 intro t
 induction t with
 | zero=>intro xs hx;cases hx
 | succ t ih =>
  intro xs hx x hx';have hV:V<=2^c:=ai (cI _ (by lia)) hc;rcases ay.mp hx with hx | hx
  ·refine Fr.up (fp xs hx x hx') (by rw[eK];exact df _ _) (ai hV (au (by decide) (dA _ (by lia))))
  ·obtain ⟨y,hy,rfl⟩:=aH.mp hx;unfold uO at hx';obtain ⟨r,hr,rfl⟩:=aH.mp hx';have wr:=wm r hr;have wy:=iI (mv:=mv) lm wp t y hy;have f:=Oq (by lia) (fm r hr) (ih y hy);rw[eK,b6 (M^t)];refine f.mono ?_;rw[dn,MS,bo,b6 (2^(c*t)),<- cy,wr];exact aA _ (ai (aA _ (by lia)) hc)
def uN (mv pt:LR9) (a c:Nat):Prop:=∃M V:Nat,0 < M/\M<=2^a/\(mv.length+1)*V<=2^c/\GF M V mv/\GF M V pt/\a<=400/\c<=40/\mv.length*(mv.length*(a+c)+4)<=1740/\mv.length*(mv.length*(mv.length*(a+c)+4)+a+c+4)<=8900
theorem uN.swf {a c:Nat} (F:uN mv pt a c) (D:mv.length<=8) (wm:∀xs∈mv,xs.length=mv.length) (wp:∀xs∈pt,xs.length=mv.length) (ht:t<=mv.length):Hq (kry mv pt t) mv.length (mv.length*(a+c)):=by
 obtain ⟨M,V,M0,Ma,hV,fm,fp,a3,c3,e14,e89⟩:=F;have f:=L6 rfl wm wp hV fm fp t;have h1:mv.length*(a+c)<=8*440:=aJ D (by lia);have hM:M^t<=2^(a*mv.length):=ai (jo Ma _) (by rw[<- zx];exact au (by decide) (aF _ ht));have h2:a*mv.length<=mv.length*(a+c):=by rw[b6];exact aF _ (by lia)
 have h3:mv.length=0\/mv.length*(a+c)<=1740:=by
  rcases fh mv.length with z | z
  ·exact .inl z
  ·right
   have:=cI (mv.length*(a+c)+4) z
   lia
 have h4:mv.length*(a+c)<=1740:=by
  rcases h3 with z | z
  ·rw[z];lia
  ·exact z
 refine ⟨M^t,2^(mv.length*(a+c)),dO M0,ai hM (au (by decide) (by lia)),jG,ak _,λxs hx x hx'=>Tp.of (f xs hx x hx') ?_,by lia,by lia,?_⟩
 ·refine ai (aJ (au (by decide) (aF c ht)) hM) ?_;rw[<- bo];refine au (by decide) ?_;rw[b6 c,b6 a,<- dn,xg c];exact ak _
 ·exact ai (aA _ (AH _ _)) (by lia)
theorem uN.tp {a c:Nat} (F:uN mv pt a c) (D:mv.length<=8) (wm:∀xs∈mv,xs.length=mv.length) (wp:∀xs∈pt,xs.length=mv.length) (ht:t<=mv.length) (RR:cD (kry mv pt t) mv.length R ps):∃M,0 < M/\M<=2^(mv.length*(mv.length*(a+c)+4))/\∀xs∈R,∀x∈xs,Tp M (2^(mv.length*(mv.length*(a+c)+4))) x:=by
 obtain ⟨_,M,h0,h1,h2⟩:=RA (iI rfl wp t) (F.swf D wm wp ht) RR;have le:2^(min (kry mv pt t).length mv.length*(mv.length*(a+c)+4))<=2^(mv.length*(mv.length*(a+c)+4)):=au (by decide) (aA _ (AH _ _));exact ⟨M,h0,ai h1 le,λxs hx x hx'=>(h2 xs hx x hx').mono le⟩
theorem uN.step {a c:Nat} (F:uN mv pt a c) (D:mv.length<=8) (wm:∀xs∈mv,xs.length=mv.length) (wp:∀xs∈pt,xs.length=mv.length) (ht:t<=mv.length) (RR:cD (kry mv pt t) mv.length R ps):Hq (pt++R.map (uO mv)) mv.length (mv.length*(mv.length*(a+c)+4)+a+c):=by
 obtain ⟨N,N0,N1,tN⟩:=F.tp D wm wp ht RR;obtain ⟨M,V,M0,Ma,hV,fm,fp,a3,c3,e14,e89⟩:=F;generalize mv.length*(mv.length*(a+c)+4)=e at *
 have V1:V<=2^c:=ai (cI _ (by lia)) hV;have eW:(2:Nat)^(e+a+c)=2^c*(2^a*2^e):=by rw[<- bo,<- bo];congr 1;lia
 refine ⟨N*M,2^(e+a+c),bU N0 M0,?_,jG,ak _,λxs hx x hx'=>?_,by lia,by lia,?_⟩
 ·exact ai (aJ N1 Ma) (by rw[<- bo];exact au (by decide) (by lia))
 ·rcases ay.mp hx with hx | hx
  ·refine Tp.of ((fp xs hx x hx').scaleL N) ?_;rw[eW,b6 N];exact aJ V1 (aJ Ma N1)
  ·obtain ⟨y,hy,rfl⟩:=aH.mp hx;unfold uO at hx';obtain ⟨r,hr,rfl⟩:=aH.mp hx';have wr:=wm r hr;have wy:=RR.2.1 y hy;rw[gP (by lia),wr];have t1:∀j,Tp M (V*M) (r.getD j 0):=λj=>mi (λx hx=>Tp.of (fm r hr x hx) (ak _)) j
   have t2:∀j,Tp N (2^e) (y.getD j 0):=λj=>mi (tN y hy) j
   have:=Tp.sum (k:=mv.length) (M:=N*M) (W:=V*M*2^e) (f:=λj=>r.getD j 0*y.getD j 0) λj _=>by
    have:=(t1 j).mul (t2 j);rwa [b6 M N] at this
   refine this.mono ?_;rw[eW,cy V,<- cy mv.length];exact aJ (ai (aA _ (by lia)) hV) (aA _ Ma)
 ·exact ai (aA _ (AH _ _)) (by rw[show e+a+c+4=e+a+c+4 from rfl];exact e89)
theorem uN.fit {a c:Nat} (F:uN mv pt a c) (D:mv.length<=8) (wm:∀xs∈mv,xs.length=mv.length) (wp:∀xs∈pt,xs.length=mv.length) (ht:t<=mv.length) (RR:cD (kry mv pt t) mv.length R ps):∀xs∈mv,∀r∈R,Ab xs r:=λxs hx r hr=>by
 obtain ⟨N,N0,N1,tN⟩:=F.tp D wm wp ht RR;obtain ⟨M,V,M0,Ma,hV,fm,fp,a3,c3,e14,e89⟩:=F;have V1:V<=2^c:=ai (cI _ (by lia)) hV;have p14:=au (show 0 < 2 by decide) e14;exact ⟨400,40,1740,1740,⟨M,V,M0,ai Ma (au (by decide) a3),ai V1 (au (by decide) c3),fm xs hx⟩,⟨N,2^1740,N0,ai N1 p14,ak _,λx hx=>((tN r hr x hx).mono p14).fr N0⟩,by decide⟩
end
inductive Ds (K:FG9) (C:Addr) (vs:List V) (H:Hp) (Q:VK) (E9:XK):Prop
 | mk (x p:Addr) (H0 H1:Hp) (mv pt lk R:LR9):vs=[.ref x,.ref p]->nX K H0 H C x mv pt lk->fM mv pt lk->bP K H1 H p R->R.length<=100->(∀r∈R,r.length=mv.length)->(∀xs∈mv,∀r∈R,Ab xs r)->(∀r H',H r=none->aE H H'->bP K H H' r (R.map (uO mv))->Q (.ref r) H')->Ds K C vs H Q E9
structure vN (mv pt:LR9) (Rs:List (LR9)):Prop where
 ne:Rs≠[]
 rr:∀t R,Rs[t]?=some R->∃ps,cD (kry mv pt t) mv.length R ps
 up:∀t R R',Rs[t]?=some R->Rs[t+1]?=some R'->R.length < R'.length
def GrL (K:FG9) (H0 H:Hp) (l:Addr) (Rs:List (LR9)):Prop:=∃us,H l=some (.lst us)/\Paired (λR v=>∃q,v=V.ref q/\H0 q=none/\q≠l/\bP K H0 H q R) Rs us
inductive Dw (K:FG9) (C:Addr) (vs:List V) (H:Hp) (Q:VK) (E9:XK):Prop
 | mk (x:Addr) (a c st:Nat) (H0:Hp) (mv pt lk:LR9):vs=[.ref x,.int st]->st<=1000->nX K H0 H C x mv pt lk->fM mv pt lk->uN mv pt a c->(∀r Rs H',H r=none->aE H H'->GrL K H H' r Rs->vN mv pt Rs->Rs.length<=st+1->(∀R,Rs.getLast?=some R->∀s,(Rs.length - 1=st/\s=st\/Rs.length - 1 < st/\Rs.length - 1<=s)->∃ps,cD (kry mv pt s) mv.length R ps)->Q (.ref r) H')->Dw K C vs H Q E9
section
variable {K:FG9} {H0 H1 H H':Hp} {p l:Addr} {rows mv pt R R':LR9} {Rs:List (LR9)} {t:Nat}
theorem bP.weakN (h:bP K H0 H p rows) (hn:∀q,H0 q=none->H1 q=none):bP K H1 H p rows:=by obtain ⟨xs,g,r,n⟩:=h;exact ⟨xs,g,Paired.imp' (λ_ _ ⟨q,a,b,c⟩=>⟨q,a,hn q b,c⟩) r,n⟩
theorem bP.updL {ys:List V} {o:HO} (h:bP K H0 H p rows) (hl:H l=some (.lst ys)) (nl:H0 l≠none) (pl:p≠l):bP K H0 (upd H l o) p rows:=by obtain ⟨xs,g,r,n⟩:=h;exact ⟨xs,by rw[bH pl];exact g,Paired.imp' (λ_ _ z=>dF.updL z hl nl) r,n⟩
theorem Pu {n:Nat}:cD [] n [] []:=⟨rfl,(λ_ h=>by cases h),(λ_ _ _ h=>absurd h (fI _)),(λ_ h=>absurd h (fI _)),(λ_ h=>absurd h (fI _)),(λ_ h=>absurd h (fI _)),(λ_ h=>absurd h (fI _)),(λ_ h=>absurd h (fI _))⟩
theorem vN.len (h:vN mv pt Rs):∀(t:Nat) (R:LR9),Rs[t]?=some R->t<=R.length:=by
 intro t
 induction t with
 | zero=>intro R _;exact bx _
 | succ t ih =>
  intro R e;have ht:=(aB.mp e).1;have e0:=af (show t < Rs.length by lia);have:=ih _ e0;have:=h.up t _ R e0 e
  lia
theorem vN.snoc {ps':List Nat} (h:vN mv pt (Rs++[R])) (h1:cD (kry mv pt (Rs.length+1)) mv.length R' ps') (h2:R.length < R'.length):vN mv pt ((Rs++[R])++[R']):=by
 have l1:(Rs++[R]).length=Rs.length+1:=by rw[av];rfl
 refine ⟨by simp,λt S e=>?_,λt S S' e e'=>?_⟩
 ·rcases cN t (Rs.length+1) with z | z
  ·rw[bA (by lia)] at e;exact h.rr t S e
  ·have ht:=(aB.mp e).1;rw[av,bB] at ht;have:t=Rs.length+1:=by lia
   subst this;rw[ba (by lia),l1,fP] at e;cases e;exact ⟨ps',h1⟩
 ·have ht:=(aB.mp e').1;rw[av,bB] at ht;rw[bA (by lia)] at e;rcases cN (t+1) (Rs.length+1) with z | z
  ·rw[bA (by lia)] at e';exact h.up t S S' e e'
  ·have:t=Rs.length:=by lia
   subst this;rw[ba (by lia),l1,fP] at e';cases e';rw[ba (ak _),fP] at e;cases e;exact h2
end
theorem bP.toE {K:FG9} {H0 H:Hp} {l:Addr} {rows:LR9} (h:bP K H0 H l rows):∃us,H l=some (.lst us)/\Paired (KJ K (λq=>H0 q=none/\q≠l) H) rows us:=by
 obtain ⟨us,g,pr,nn⟩:=h;exact ⟨us,g,ve (λxs v hv ⟨q,e,a,b⟩=>⟨q,e,⟨a,λz=>nn (by rw[<- z,<- e];exact hv)⟩,b⟩) pr⟩
theorem DH {α:Type} {v:α}:∀{l:List α},l.Nodup->v∉l->∀j,(l.set j v).Nodup
 | [],_,_,_=>rB
 | a :: l,h,hn,0=>by
  rw[eU] at h;rw[List.set_cons_zero,eU];exact ⟨λz=>hn (.tail _ z),h.2⟩
 | a :: l,h,hn,j+1=>by
  rw[eU] at h;rw[List.set_cons_succ,eU];refine ⟨λz=>?_,DH h.2 (λz=>hn (.tail _ z)) j⟩;rcases cm z with z | z
  ·exact h.1 z
  ·exact hn (by rw[z];exact .head _)
structure kW (K:FG9) (A:Addr->Prop) (H:Hp) (n:Nat) (C:V->Rat->Prop) (m p l b q0:Addr) (us ws vs:List V):Prop where
 bag:iC H b
 inn:Inner H b q0
 gm:H m=some (.lst us)
 gp:H p=some (.lst ws)
 gl:H l=some (.lst vs)
 lm:us.length=n
 row:∀x∈us++vs++ws,fO K A H n (C x) x
 nd:(us++vs++ws).Nodup
section
variable {K:FG9} {A:Addr->Prop} {H H':Hp} {n:Nat} {C C':V->Rat->Prop} {m p l b q0 q:Addr} {us ws vs zs:List V} {y:Rat} {v:V}
theorem kW.same (h:kW K A H n C m p l b q0 us ws vs) (e:aE H H'):kW K A H' n C m p l b q0 us ws vs :=
 ⟨h.bag.same e,(e.upto (p:=b)).2 _ h.inn,e _ _ h.gm,e _ _ h.gp,e _ _ h.gl,h.lm,λx hx=>(h.row x hx).same e,h.nd⟩
theorem kW.upto (h:kW K A H n C m p l b q0 us ws vs) (M:Ht A m p l b q0) (u:cV b H H') (B':iC H' b):kW K A H' n C m p l b q0 us ws vs :=
 ⟨B',u.2 _ h.inn,u.other M.mb h.gm,u.other M.pb h.gp,u.other M.lb h.gl,h.lm,λx hx=>(h.row x hx).upto u h.bag M.ab,h.nd⟩
theorem kW.weak (h:kW K A H n C m p l b q0 us ws vs) (w:∀x∈us++vs++ws,∀y,C x y->C' x y):kW K A H n C' m p l b q0 us ws vs :=
 ⟨h.bag,h.inn,h.gm,h.gp,h.gl,h.lm,λx hx=>(h.row x hx).weak (λ_ z=>z) (w x hx),h.nd⟩
theorem kW.put (h:kW K A H n C m p l b q0 us ws vs) (M:Ht A m p l b q0) (aq:A q) (hq:H q=some (.lst zs)) (hv:cx K H y v) (hc:C (.ref q) y) (j:Nat):kW K A (upd H q (.lst (zs.set j v))) n C m p l b q0 us ws vs:=by
 have ne:∀{z},¬A z->z≠q:=λh e=>h (by rw[e];exact aq)
 refine ⟨h.bag.upd h.inn (ne M.ab).symm (ne M.aq).symm,h.inn.upd (ne M.ab).symm,by rw[bH (ne M.am)];exact h.gm,by rw[bH (ne M.ap)];exact h.gp,by rw[bH (ne M.al)];exact h.gl,h.lm,λx hx=>?_,h.nd⟩;by_cases e:x=.ref q
 ·subst e;exact (h.row _ hx).put hq hv hc j
 ·obtain ⟨q1,qs,rfl,a1,r1,l1,c1⟩:=h.row x hx;exact ⟨q1,qs,rfl,a1,r1.updL hq (λz=>e (by rw[z])),l1,c1⟩
theorem kW.set (h:kW K A H n C m p l b q0 us ws vs) (M:Ht A m p l b q0) (hx:fO K A H n (C v) v) (hn:v∉us++vs++ws) (j:Nat):kW K A (upd H m (.lst (us.set j v))) n C m p l b q0 (us.set j v) ws vs:=by
 have mem:∀x∈us.set j v++vs++ws,x=v\/x∈us++vs++ws:=λx hx=>by
  rcases ay.mp hx with hx | hx
  ·rcases ay.mp hx with hx | hx
   ·rcases cm hx with hx | hx
    ·exact .inr (by simp [hx])
    ·exact .inl hx
   ·exact .inr (by simp [hx])
  ·exact .inr (by simp [hx])
 refine ⟨h.bag.upd h.inn M.mb M.mq,h.inn.upd M.mb,aK,by rw[bH M.mp.symm];exact h.gp,by rw[bH M.ml.symm];exact h.gl,by rw[dY];exact h.lm,λx hx'=>?_,?_⟩
 ·rcases mem x hx' with rfl | hx'
  ·exact hx.other h.gm M.am
  ·exact (h.row x hx').other h.gm M.am
 ·have nd:=h.nd;rw[cF] at nd hn ⊢;obtain ⟨n1,n2,n3⟩:=dP.mp nd;refine dP.mpr ⟨?_,n2,λa ha c hc=>?_⟩
  ·rcases cN j us.length with z | z
   ·exact DH n1 (λz'=>hn (ay.mpr (.inl z'))) j
   ·rw[List.set_eq_of_length_le z];exact n1
  ·rcases cm ha with ha | rfl
   ·exact n3 a ha c hc
   ·exact λz=>hn (ay.mpr (.inr (by rw[z];exact hc)))
end
theorem Jv {M W:Nat} {x:Rat} (h0:0 < M) (h1:M<=2^800) (hW:W<=2^140) (h:Fr M W x):ug x :=
 Iv h0 (ai h1 (au (by decide) (by decide))) (ai hW (au (by decide) (by decide))) h
theorem N5 {t V c:Nat} (ht:t<=3) (hV:V<=2^20) (hc:c<=9):c*(9^t*V)<=2^140:=by
 have h1:9^t<=9^3:=au (by decide) ht;have h2:c*(9^t*V)<=9*(9^3*2^20):=aJ hc (aJ h1 hV);exact ai h2 (ai (show 9*(9^3*2^20)<=2^40 by decide) (au (by decide) (by decide)))
theorem td {α:Type} {l:List α} {v:α} (h:l.Nodup) (hn:v∉l):(l++[v]).Nodup:=dP.mpr ⟨h,by simp,λa ha c hc=>by rw[bN.mp hc];exact λz=>hn (by rw[<- z];exact ha)⟩
section
variable {K:FG9} {a:Addr} {xs:List V} {g:TG} {tf:TT} {te:TE} {Q:VK} {σ₀:St} {H:Hp} {α β:Type}
theorem DT {n:Nat} {b:Addr} (G:Hp->β->V->Prop) (C:β->Prop) (hB:iC H b) (hl:n<=1000) (hG:∀{H' H'' c x},G H' c x->cV b H' H''->iC H' b->G H'' c x)
  (hA:∀{H' c x},G H' c x->∃q,x=V.ref q/\H' q≠none)
  (hs:∀(i:Nat) H' NY NN,i < n->cV b H H'->iC H' b->(∀y c H2,cV b H' H2->iC H2 b->C c->G H2 c y->(∃q,y=V.ref q/\H' q=none)->NY y H2)->uD σ₀ g tf te (.int i) H' NY NN)
  (hd:∀ys cs H' p,H p=none->cV b H H'->iC H' b->H' p=some (.lst ys)->cs.length=n->ys.Nodup->(∀c∈cs,C c)->Paired (G H') cs ys->(∃H2,H2 p=none/\Paired (G H2) cs ys)->Q (.ref p) H'):uJ (Hw 0 n) σ₀ g tf te Q H:=by
 refine tO (λi ys H'=>cV b H H'/\iC H' b/\∃cs,cs.length=i/\ys.Nodup/\(∀c∈cs,C c)/\Paired (G H') cs ys) (bc (bF (by lia))) ⟨(aE.refl _).upto,hB,[],rfl,rB,(λ_ z=>nomatch z),.nil⟩ ?_ ?_
 ·rintro i ys H' hi hlen ⟨u,B,cs,lc,nd,hc,pr⟩;rw[Bi];refine hs i H' _ _ hi u B λy c H2 u2 B2 cc gy ⟨q,ey,nq⟩=>⟨u.trans u2,B2,cs++[c],by simp [lc],td nd (λz=>by obtain ⟨c',_,gc⟩:=cM pr z;obtain ⟨q',e',h'⟩:=hA gc;rw[ey] at e';cases e';exact h' nq),Fe hc cc,bW (Paired.imp' (λ_ _ z=>hG z u2 B) pr) (.cons gy .nil)⟩
 ·rintro ys H' hy ⟨u,B,cs,lc,nd,hc,pr⟩ p hp;have s:aE H' (upd H' p (.lst ys)):=aE.new hp;exact hd ys cs _ p (u.none B hp) (u.same s) (B.same s) aK lc nd hc (Paired.imp' (λ_ _ z=>hG z s.upto B) pr) ⟨H',hp,pr⟩
end
structure IE (K:FG9) (A:Addr->Prop) (n:Nat) (C:Rat->Prop) (m p l b q0:Addr) (us ws vs:List V) (H0 H:Hp):Prop where
 mix:kW K A H n (λ_=>C) m p l b q0 us ws vs
 gp:H p=some (.lst ws)
 gl:H l=some (.lst vs)
 kp:jr A b m H0 H
section
variable {K:FG9} {A:Addr->Prop} {n:Nat} {C:Rat->Prop} {m p l b q0 q:Addr} {us ws vs:List V} {H0 H H':Hp} {y:Rat} {v:V}
theorem IE.same (h:IE K A n C m p l b q0 us ws vs H0 H) (e:aE H H'):IE K A n C m p l b q0 us ws vs H0 H':=⟨h.mix.same e,e _ _ h.gp,e _ _ h.gl,h.kp.same e⟩
theorem IE.upto (h:IE K A n C m p l b q0 us ws vs H0 H) (M:Ht A m p l b q0) (u:cV b H H') (B:iC H' b):IE K A n C m p l b q0 us ws vs H0 H':=⟨h.mix.upto M u B,u.other M.pb h.gp,u.other M.lb h.gl,h.kp.upto u⟩
theorem IE.row (h:IE K A n C m p l b q0 us ws vs H0 H) {x:V} (hx:x∈ws\/x∈vs):fO K A H n C x:=h.mix.row x (by rcases hx with hx | hx <;> simp [hx])
theorem IE.put (h:IE K A n C m p l b q0 us ws vs H0 H) (M:Ht A m p l b q0) (hx:V.ref q∈ws\/V.ref q∈vs) (hv:cx K H y v) (hc:C y) (j:Nat):∃zs,H q=some (.lst zs)/\zs.length=n/\IE K A n C m p l b q0 us ws vs H0 (upd H q (.lst (zs.set j v))):=by
 obtain ⟨q',zs,qs,e,a,g,lz,_⟩:=(h.row hx).at;cases e;have ne:∀{z},¬A z->z≠q:=λh e=>h (by rw[e];exact a)
 exact ⟨zs,g,lz,h.mix.put M a g hv hc j,by rw[bH (ne M.ap)];exact h.gp,by rw[bH (ne M.al)];exact h.gl,h.kp.upd (.inl a)⟩
end
inductive FL (K:FG9) (vs:List V) (H:Hp) (Q:VK) (E9:XK):Prop
 | mk (b:Addr) (n w:Nat) (way first:Int):vs=[.ref b,.int n,.int way,.int first,.int w]->iC H b->n<=8->1<=w->w<=1000000->(∀r us H',H r=none->H' r=some (.lst us)->us.length=n->us.Nodup->(∀x∈us,fO K (λq=>H q=none/\q≠r) H' n (Dr (max w 6)) x)->iC H' b->cV b H H'->Q (.ref r) H')->FL K vs H Q E9
def PtF (n i o w c:Nat) (mv pt lk:LR9):Prop:=∃M V1:Nat,0 < M/\GF M V1 mv/\GF M V1 pt/\GF M V1 lk/\((w<=9/\M=2520/\V1=9^3*9)\/(9 < w/\M<=2^(c*((n+i+o)*n))/\V1=9^3*2^c))
inductive FN (K:FG9) (vs:List V) (H:Hp) (Q:VK) (E9:XK):Prop
 | mk (b:Addr) (n:Nat):vs=[.ref b,.int n]->iC H b->1<=n->n<=8->(∀r mv pt lk H',eO K H H' r mv pt lk->mv.length=n->pt.length=1->lk.length=1->fM mv pt lk->GF 1 1 mv->GF 1 1 pt->GF 1 1 lk->iC H' b->cV b H H'->Q (.ref r) H')->FN K vs H Q E9
theorem A2 {mv pt:LR9} {M V1 a c n0:Nat} (M0:0 < M) (hM:M<=2^a) (hn:mv.length<=n0) (hV:(n0+1)*V1<=2^c) (fm:GF M V1 mv) (fp:GF M V1 pt) (h4:a<=400/\c<=40/\n0*(n0*(a+c)+4)<=1740/\n0*(n0*(n0*(a+c)+4)+a+c+4)<=8900):uN mv pt a c:=by
 obtain ⟨h1,h2,h3,h5⟩:=h4;have e1:mv.length*(a+c)<=n0*(a+c):=aA _ hn;have e2:mv.length*(mv.length*(a+c)+4)<=n0*(n0*(a+c)+4):=aJ hn (by lia);have e3:mv.length*(mv.length*(mv.length*(a+c)+4)+a+c+4)<=n0*(n0*(n0*(a+c)+4)+a+c+4):=aJ hn (by lia);exact ⟨M,V1,M0,hM,ai (aA _ (by lia)) hV,fm,fp,h1,h2,by lia,by lia⟩
def Ni (K:FG9):Sp:=λvs H Q _=>∃b:Addr,vs=[.ref b]/\iC H b /\
 ∀r mv pt lk H',eO K H H' r mv pt lk->6<=mv.length->fM mv pt lk->GF 1 (9^3) mv->GF 1 (9^3) pt->GF 1 (9^3) lk->iC H' b->cV b H H'->Q (.ref r) H'
theorem E3 {rs:List Nat} {v v':Nat->iM}:∀{k:Nat} (pre:List iM),(∀j,j < k->∀r∈rs,v j r=v' j r)->kf rs (pre++jx v k)=kf rs (pre++jx v' k)
 | 0,_,_=>rfl
 | k+1,pre,h=>by
  show kf rs (pre++v k :: jx v k)=kf rs (pre++v' k :: jx v' k)
  rw[Mv (h k (by lia))];have:=E3 (k:=k) (pre++[v' k]) λj hj=>h j (by lia)
  simpa using this
theorem cw_map {τ:iM->iM} {v:Nat->iM}:∀{k:Nat},(jx v k).map τ=jx (λj=>τ (v j)) k
 | 0=>rfl
 | k+1=>by show τ (v k) :: _=_;rw[cw_map];rfl
theorem Mu {N : Nat} {W : Nat → Nat} : ∀ {rs : List Nat} {vs : List iM}, vs.length ≤ N → (∀ v ∈ vs, ∀ r ∈ rs, Fr 1 (W r) (v r)) → Fr 1 ((rs.map λr => N * W r).foldr (· * ·) 1) (kf rs vs)
  | [], [], _, _ => by show Fr 1 1 1; exact (Fr.int (i := 1) (by decide))
  | [], _ :: _, _, _ => by show Fr 1 _ 0; exact Fr.zero
  | r :: rs, vs, hl, h => by
    have := LY (F := λws => kf rs ws) (r := r) (B := (rs.map λr => N * W r).foldr (· * ·) 1) (W := W r) (post := vs) (pre := []) (s := 1) (λws h1 h2 => Mu (by rw [cY] at h2; lia) λv hv r' hr' => h v (by simpa using h1 v hv) r' (.tail _ hr')) (λw hw => h w hw r (.head _)) (Fr.int (i := 1) (by decide));refine this.mono ?_;show _ ≤ N * W r * _
    rw [cy N];exact aA _ hl
section
variable {rows fs ls:LR9} {n r M W Wv Wb k P:Nat} {Pm Y Z B E a:Nat->Nat->Rat} {d:Rat} {ps:List Nat} {rs:LR9}
end
section
variable {rows R R1 R2 mv pt:LR9} {n r M V1 W W' Wv Wb k P:Nat} {Pm Y Z B E a:Nat->Nat->Rat} {d:Rat} {ps ps1 ps2:List Nat} {rs:LR9}
theorem Pe (h0:0 < M) (h3:∀xs∈rows,∀x∈xs,Tp M W x):∀i,i < rows.length->∀c,Fr 1 W (fv (rows.map nD) i c):=λi hi c=>by
 have hx:=getD_in (e:=[]) hi;rw[Fv hi];unfold cZ;generalize rows.getD i []=xs at hx ⊢;by_cases hc:c < xs.length
 ·have t:=h3 xs hx _ (getD_in (e:=0) hc);obtain ⟨s,e,b⟩:=Ee t h0 (Ct (xs:=xs)) (vI (aH.mpr ⟨_,getD_in (e:=0) hc,rfl⟩)) (JF h0 (h3 xs hx));rw[fw,e];exact Fr.int b
 ·rw[ae,aR (by lia)];show Fr 1 W (_*0)
  rw[rA];exact Fr.zero
theorem Mm {V:Nat} {f:Nat->Rat}:∀{k:Nat},(∀j,j < k->Fr 1 V (f j))->Fr 1 (k*V) (b7 k f)
 | 0,_=>Fr.zero
 | k+1,h=>by
  rw[dI];exact (Mm λj hj=>h j (by lia)).add (h k (by lia))
theorem zE {f:Nat->Rat} {a:Nat}:∀{b:Nat},b7 (a+b) f=b7 a f+b7 b λt=>f (a+t)
 | 0=>by show b7 a f=b7 a f+0;grind
 | b+1=>by
  show b7 (a+b) f+f (a+b)=_+(b7 b _+f (a+b))
  rw[zE];grind
end
section
variable {rows R R1 R2 mv pt:LR9} {n t t2 a c:Nat} {ps ps1 ps2:List Nat}
theorem Jw {M W:Nat} (h:∀i,i < rows.length->∀c,Tp M W (cZ rows i c)):∀xs∈rows,∀x∈xs,Tp M W x:=λxs hx x hx'=>by
 obtain ⟨i,hi,rfl⟩:=bX hx;obtain ⟨c,hc,rfl⟩:=bX hx';have:=h i hi c;unfold cZ at this;rw[ae (l:=rows),af hi] at this;have e:(some rows[i]).getD []=rows[i]:=rfl;rw[e,ae,af hc] at this;exact this
end
section
variable {K:FG9} {a:Addr} {xs:List V} {g:TG} {tf:TT} {te:TE} {Q:VK} {σ₀:St} {H:Hp} {α β:Type}
theorem DR {as:List α} {F:Hp->α->V->Prop} (G:Hp->β->V->Prop) (f:α->β) (hx:H a=some (.lst xs)) (pf:Paired (F H) as xs) (hl:as.length<=1000)
  (hF:∀{H H' c x},F H c x->aE H H'->F H' c x) (hG:∀{H H' c x},G H c x->aE H H'->G H' c x) (hA:∀{H' c x},G H' c x->∃q,x=V.ref q/\H' q≠none)
  (hs:∀(i:Nat) c x H' NY NN,as[i]?=some c->aE H H'->F H' c x->(∀y H2,aE H' H2->G H2 (f c) y->(∃q,y=V.ref q/\H' q=none)->NY y H2)->uD σ₀ g tf te x H' NY NN)
  (hd:∀ys H' p,H p=none->aE H H'->H' p=some (.lst ys)->ys.Nodup->(∀y∈ys,∃q,y=V.ref q/\H q=none/\q≠p)->Paired (G H') (as.map f) ys->Q (.ref p) H'):uJ (MW K a) σ₀ g tf te Q H:=by
 have lx:=pf.length;refine fY (K:=K) (xs:=xs) (λi ys H'=>aE H H'/\ys.Nodup/\(∀y∈ys,∃q,y=V.ref q/\H q=none)/\Paired (G H') ((as.take i).map f) ys) (bc (bF (by lia))) ⟨aE.refl _,rB,(λ_ z=>nomatch z),.nil⟩ (λi ys H' _ ⟨s,_⟩=>bS.of (s _ _ hx)) ?_ ?_
 ·rintro i x ys H' hx' hlen ⟨s,nd,hn,pr⟩;obtain ⟨c,ec,hc⟩:=cv pf hx';refine hs i c x H' _ _ ec s (hF hc s) λy H2 s2 gy ⟨q,ey,nq⟩=>⟨s.trans s2,td nd (λz=>?_),Fe hn ⟨q,ey,s.none nq⟩,?_⟩
  ·obtain ⟨c',_,gc⟩:=cM pr z;obtain ⟨q',e',h'⟩:=hA gc;rw[ey] at e';cases e';exact h' nq
  ·rw[take_snoc ec,cS];exact bW (Paired.imp' (λ_ _ z=>hG z s2) pr) (.cons gy .nil)
 ·rintro ys H' hy ⟨s,nd,hn,pr⟩ p hp;rw[aG (by lia)] at pr;refine hd ys _ p (s.none hp) (s.trans (aE.new hp)) aK nd (λy hy=>?_) (Paired.imp' (λ_ _ z=>hG z (aE.new hp)) pr);obtain ⟨q,e,nq⟩:=hn y hy;refine ⟨q,e,nq,λz=>?_⟩;obtain ⟨c',_,gc⟩:=cM pr hy;obtain ⟨q',e',h'⟩:=hA gc;rw[e] at e';cases e';exact h' (by rw[z];exact hp)
end
structure Sy (K:FG9) (H0 H:Hp) (n:Nat) (fd:Addr) (L:List (Addr×List V)):Prop where
 gf:H fd=some (.lst (L.map λe=>V.ref e.1))
 nf:H0 fd=none
 ls:∀e∈L,H0 e.1=none/\e.1≠fd/\H e.1=some (.lst e.2)
 nd:(L.map λe=>e.1).Nodup
 rows:∀e∈L,∀x∈e.2,fO K (λq=>(H0 q=none/\q≠fd)/\q∉L.map λe=>e.1) H n (Fr 1 1) x
 rd:(L.flatMap λe=>e.2).Nodup
section
variable {K:FG9} {H0 H H1:Hp} {n:Nat} {fd q:Addr} {L:List (Addr×List V)} {us:List V}
theorem Sy.snoc (h:Sy K H0 H n fd L) (s0:aE H0 H) (s:aE H H1) (hq:H q=none) (gq:H1 q=some (.lst us)) (nd:us.Nodup) (hr:∀x∈us,fO K (λz=>H z=none/\z≠q) H1 n (Fr 1 1) x):Sy K H0 (upd H1 fd (.lst ((L.map λe=>V.ref e.1)++[.ref q]))) n fd (L++[(q,us)]):=by
 have qf:q≠fd:=λz=>by rw[z,h.gf] at hq;cases hq
 have old:∀{z},z∈(L.map λe=>e.1)->H z≠none:=λhz=>by
  obtain ⟨e,he,rfl⟩:=aH.mp hz;rw[(h.ls e he).2.2];exact λz=>nomatch z
 have g1:=s _ _ h.gf;refine ⟨by rw[aK,cS];rfl,h.nf,λe he=>?_,?_,λe he x hx=>?_,?_⟩
 ·rcases ay.mp he with he | he
  ·obtain ⟨a,b,c⟩:=h.ls e he;exact ⟨a,b,by rw[bH b];exact s _ _ c⟩
  ·rw[bN.mp he];exact ⟨s0.none hq,qf,by rw[bH qf];exact gq⟩
 ·rw[cS];exact td h.nd λz=>old z hq
 ·have key:fO K (λz=>(H0 z=none/\z≠fd)/\z∉(L++[(q,us)]).map λe=>e.1) H1 n (Fr 1 1) x:=by
   rcases ay.mp he with he | he
   ·obtain ⟨z,qs,e1,⟨e2,e3⟩,e4,e5⟩:=h.rows e he x hx;refine ⟨z,qs,e1,⟨e2,λhz=>?_⟩,e4.same s,e5⟩;rw[cS] at hz;rcases ay.mp hz with hz | hz
    ·exact e3 hz
    ·have hz:z=q:=bN.mp hz;obtain ⟨_,gg,_⟩:=e4;rw[hz,hq] at gg;cases gg
   ·rw[bN.mp he] at hx;refine (hr x hx).weak (λz hz=>⟨⟨s0.none hz.1,λy=>by rw[y] at hz;rw[h.gf] at hz;exact absurd hz.1 (λw=>nomatch w)⟩,λy=>?_⟩) (λ_ w=>w);rw[cS] at y;rcases ay.mp y with y | y
    ·exact old y hz.1
    ·exact hz.2 (bN.mp y)
  exact key.other g1 (λz=>z.1.2 rfl)
 ·rw[List.flatMap_append];refine dP.mpr ⟨h.rd,by simpa using nd,λx hx y hy z=>?_⟩;obtain ⟨e,he,hx⟩:=List.mem_flatMap.mp hx;obtain ⟨w,qs,e1,_,⟨_,gg,_⟩,_⟩:=h.rows e he x hx;obtain ⟨w',_,e1',⟨hw,_⟩,_⟩:=hr y (by simpa using hy);rw[<- z,e1] at e1';cases e1';rw[hw] at gg;cases gg
end
theorem Ll:typeLookup (.type "list_reverseiterator") "__len__"=pure none:=by
 rw[typeLookup_type,builtinLookup_eq_fast]
 kernel_rfl
theorem Nv:typeLookup (.type "list_reverseiterator") "__length_hint__"=pure (some (.builtin "list_reverseiterator.__length_hint__")):=by
 rw[typeLookup_type,builtinLookup_eq_fast]
 kernel_rfl
section
variable {prog:Program} {w:World} {A:Around} {E:Value->Shared->Prop} {s:Shared}
theorem Nt {it l:Addr} {i:Int} {Q:Bool->Shared->Prop} (hit:s.heap.IsRevIter it l i) (q:Q false s):wpAny (model prog w) A (Builtin.List.listLengthHint (.ref it)) Q E s:=by
 unfold Builtin.List.listLengthHint;refine wpAny_bind (wpAny_specialOf hit.typeIs Ll ?_);show wpAny _ A (specialOf (Value.ref it) (Str.ofString "__length_hint__") >>= _) Q E s
 refine wpAny_bind (wpAny_specialOf hit.typeIs Nv ?_);generalize hid:("list_reverseiterator.__length_hint__":String)=id0
 dsimp only
 rw[show splitId id0=some ("list_reverseiterator","__length_hint__") from by subst hid;decide +kernel];subst hid;refine wpAny_bind (wpAny_isInstance (T:="list_reverseiterator") (b:=true) hit.typeIs (by rw[isSubtype_type];kernel_rfl) ?_);refine wpAny_ite_split (λz=>absurd z (by decide)) (λ_=>?_);refine wpAny_ite_split (λ_=>?_) (λz=>absurd (by decide +kernel) z);exact wpAny_ite_split (λz=>absurd z (by decide +kernel)) (λ_=>wpAny_pure q)
theorem Nw {R:Result->Shared->Prop} {I l S:Addr} {items:Array Value} {res:Value} {c0:Nat} (hh:A.handled=none) (hit:s.heap.IsRevIter I l ((items.size:Int) - 1)) (hl:s.heap.IsList l items) (nI:l≠I) (nS:S≠I) (nL:S≠l) (hn:items.size<=sizeLine) (hS:s.heap.get? S=some { cls:=.type "list",data:=.seq #[] c0 })
  (hR:∀h' tk acc c,(∀b o,b≠S->b≠I->s.heap.get? b=some o->h'.get? b=some o)->h'.get? S=some { cls:=.type "list",data:=.seq acc c }->ItemsOf (λi v=>items[items.size - 1 - i]?=some v) acc items.size->R (.ok (.ret res)) { s with heap:=h',toks:=tk }) :
  wpAny (model prog w) A.in1 (Builtin.List.listExtendWith (.ref S) (.ref I) res) (λfin s2=>match fin with | .done f=>R (.ok f) s2 | .again c=>c.quiet=true/\codeAny (model prog w) A c R s2) (λe s2=>R (.error e) s2) s:=by
 have W:=(Walks.listRev (prog:=prog) (w:=w) (A:=A.in1) hh I l nI items).toS;unfold Builtin.List.listExtendWith;refine wpAny_bind (wpAny_typeOf hit.typeIs ?_);rw[if_neg (by simp [Builtin.List.listSameRef,nS])];refine wpAny_bind (wpAny_pyIter_revIter hit ?_);refine wpAny_bind (wpAny_holding (Nt hit ?_));refine wpAny_ite_split (λz=>absurd z (by decide +kernel)) (λ_=>?_);have h0:s.heap.IsRevIter I l ((items.size:Int) - 1 - ((0:Nat):Int)):=by simpa using hit
 refine wpAny_pure ⟨plainId_quiet F.plain_extend_loop _,codeAny_extend_loopS W hn S (by simp [nS,nL]) res items.size 0 s #[] c0 rfl (bx _) ⟨bx _,h0,hl⟩ hS (ItemsOf.nil _) λs2 acc c hm h2 hi=>?_⟩;rw[Moved.eq_with hm];exact hR s2.heap s2.toks acc c (λb o n1 n2 e=>hm.heap b o (by simp [n1,n2]) e) h2 hi
theorem Nu {Q : Value → Shared → Prop} {I l : Addr} {items : Array Value} (hh : A.handled = none) (hit : s.heap.IsRevIter I l ((items.size : Int) - 1)) (hl : s.heap.IsList l items) (nI : l ≠ I) (hn : items.size ≤ sizeLine)
    (hQ : ∀ h' tk acc c, (∀ b o, b ≠ I → s.heap.get? b = some o → h'.get? b = some o) → h'.get? s.heap.objs.size = some { cls := .type "list", data := .seq acc c } → ItemsOf (λi v => items[items.size - 1 - i]? = some v) acc items.size → Q (.ref s.heap.objs.size) { s with heap := h', toks := tk }) :
    wpAny (model prog w) A (call (.type "list") [.ref I]) Q E s := by
  refine callType_codes (Q₁ := λx s2 => x = .ref s.heap.objs.size /\ s2 = { s with heap := s.heap.push { cls := .type "list", data := .seq #[] } }) F.called_list (F.typeCall_list_1 _) F.entry_list_init (code_list_new _ ⟨rfl, rfl⟩) λx s2 hx => ?_
  obtain ⟨rfl, rfl⟩ := hx;have up : ∀ b o, s.heap.get? b = some o → (s.heap.push { cls := .type "list", data := .seq #[] }).get? b = some o := λb o e => Heap.get?_push_of_some _ e
  have hS : (s.heap.push { cls := .type "list", data := .seq #[] }).get? s.heap.objs.size = some { cls := .type "list", data := .seq #[] } := Heap.get?_push_size _ rfl
  have lI : I ≠ s.heap.objs.size := by
    obtain ⟨o, ho, _⟩ := hit;exact cb (Heap.lt_size ho)
  have lL : l ≠ s.heap.objs.size := by
    obtain ⟨o, ho, _⟩ := hl;exact cb (Heap.lt_size ho)
  refine ⟨⟨_, hS, rfl⟩, F.args_list_init_2 _ _, ?_⟩;show wpAny _ A.in1.in1 (do let old <- Builtin.List.listItems (.ref s.heap.objs.size); Builtin.List.listUpdate (.ref s.heap.objs.size) (λ_ => #[]); letGo old.toList.reverse; Builtin.List.listExtendWith (.ref s.heap.objs.size) (.ref I) .none) _ _ _
  refine wpAny_bind ?_;unfold Builtin.List.listItems;refine wpAny_bind (wpAny_seqItems hS rfl (wpAny_pure ?_));refine wpAny_bind (m := Builtin.List.listUpdate (.ref s.heap.objs.size) (λ_ => #[])) (wpAny_updateSeq hS rfl ?_);have h3 := Heap.get?_update_self (Obj.mapSeq (λ_ => (#[] : Array Value))) hS rfl;have o3 : ∀ b o, b ≠ s.heap.objs.size → (s.heap.push { cls := .type "list", data := .seq #[] }).get? b = some o → ((s.heap.push { cls := .type "list", data := .seq #[] }).update s.heap.objs.size (Obj.mapSeq (λ_ => (#[] : Array Value)))).get? b = some o := λb o nb e => (Heap.get?_update_other _ _ (Ne.symm nb)).trans e
  refine wpAny_bind (wpAny_letGo ?_);refine Nw (A := A.in1) hh (hit.at λo e => o3 _ _ lI (up _ _ e)) (hl.at λo e => o3 _ _ lL (up _ _ e)) nI lI.symm lL.symm hn h3 λh' tk acc c hk h2 hi => ?_
  exact ⟨rfl, hQ h' tk acc c (λb o nb e => hk b o (cb (Heap.lt_size e)) nb (o3 _ _ (cb (Heap.lt_size e)) (up _ _ e))) h2 hi⟩
end
section
variable {X:Cx}
def FA (K:FG9) (ta:TA):TE:=λσ H Q=>ta σ H λvs H1=>∃l xs,vs=[.ref l]/\bS K H1 l xs/\xs.length<=1000/\∀L H',aE H1 H'->H1 L=none->H' L=some (.lst xs.reverse)->Q (.ref L) H'
theorem Fx:∀{xs:List V} {us:List Value},cU xs us->cU xs.reverse us.reverse
 | _,_,.nil=>.nil
 | _,_,.cons h r=>by
  rw[zy,zy];exact cU.append (Fx r) (.cons h .nil)
theorem HW (K:FG9) {e1:Expr} {ta:TA} {p p2 pos pos2:Pos} (hg:Gl X "list") (hm:X.mg "list"=none) (hg2:Gl X "reversed") (hm2:X.mg "reversed"=none) (ha:PA X [e1] ta) (hK:X.K=K:=by rfl) (hc:X.calm=true:=by rfl)
  (hs:starEach [e1] X.env=[(false,eval e1 X.env)]:=by rfl)
  (hs3:starEach [Expr.Call (.Name "reversed" p2) [e1] [] pos2] X.env=[(false,eval (.Call (.Name "reversed" p2) [e1] [] pos2) X.env)]:=by rfl) :
  PE X (.Call (.Name "list" p) [.Call (.Name "reversed" p2) [e1] [] pos2] [] pos) (FA K ta):=by
 subst hK;intro pins s σ H Q I h;refine wpAny_Call_Name_kw (lV I hg hm boot_list ?_);refine PyProof.Rows.callWith_type1 ?_ (by rw[hs3];rfl) rfl;rw[hs3];show wpAny _ _ (spliced ((false,eval (.Call (.Name "reversed" p2) [e1] [] pos2) X.env) :: [])) _ _ s
 refine Calls.spliced_cons ?_;refine Call_ (lV I hg2 hm2 boot_reversed (PyProof.Rows.callWith_type1 (fR (ha pos2 pins s σ H _ I h) λus s1 ⟨vs,H1,I1,r1,q1⟩=>?_) hs rfl));obtain ⟨l,xs,e,hl,hn,q⟩:=q1;subst e;obtain ⟨u,rfl,ru⟩:=vals1 r1;cases ru;obtain ⟨its,rv,pl,hz⟩:=I1.list hl;have hlen:=rv.length;have pI:=pl.isList;refine call_reversed_list pI ?_;refine Calls.spliced_nil ?_;have kp:∀b o,s1.heap.get? b=some o->(s1.heap.push (revObj l ((its.toArray.size:Int) - 1))).get? b=some o:=λb o e=>Heap.get?_push_of_some _ e
 have nI:l≠s1.heap.objs.size:=by
  obtain ⟨o,ho,_⟩:=pI;exact cb (Heap.lt_size ho)
 refine Nu (I.ok.hd hc) (I:=s1.heap.objs.size) (l:=l) (items:=its.toArray) ⟨_,Heap.get?_push_size _ rfl,rfl,rfl⟩ (pI.at λo e=>kp _ _ e) nI (by rw[aL];lia) λh' tk acc c hk hS hacc=>?_
 have sz:s1.heap.objs.size<=(s1.heap.push (revObj l ((its.toArray.size:Int) - 1))).objs.size:=by rw[Heap.size_push];exact uL _
 have nS:=I1.hok.fresh sz
 have ea:acc.toList=its.reverse:=by
  apply iw;intro j;rcases cN j its.length with z | z
  ·have hj:j < acc.toList.length:=by rw[Array.length_toList,hacc.1,aL];exact z
   have:=hacc.2 j acc.toList[j] (by rw[<- Array.getElem?_toList];exact af hj);rw[af hj,List.getElem?_reverse z];simpa using this.symm
  ·rw[aR (by rw[Array.length_toList,hacc.1,aL];exact z),aR (by rw[nV];exact z)]
 have vs':cU xs.reverse acc.toList:=by rw[ea];exact Fx rv
 have sl:xs.reverse.length<=sizeLine:=by rw[nV];exact hz
 refine ⟨.ref _,_,I1.laid (o:=.lst xs.reverse) (λb o e=>hk b o (cb (Heap.lt_size e)) (kp b o e)) sz ?_,rfl,q _ _ (aE.new nS) nS aK⟩;exact ⟨sl,acc.toList,c,vs',by simpa using hS⟩
end
theorem GC {F G:List iM->Rat} {r:Nat} {g:Nat->Rat} {c:Rat} (hF:∀ws:List iM,F (ws.map λv i=>g i*v i)=c*G ws):∀(post pre:List iM) (s:Rat),CJ F r (pre.map λv i=>g i*v i) (post.map λv i=>g i*v i) s=g r*c*CJ G r pre post s
 | [],_,_=>by show (0:Rat)=_*0;grind
 | v :: post,pre,s=>by
  have i1:=hF (pre++post);have i2:=GC (r:=r) hF post (pre++[v]) (-s);simp only[cS,iD,List.map_nil,CJ] at i1 i2 ⊢;rw[i1,i2];grind
theorem yM {g : Nat → Rat} : ∀ (rs : List Nat) (vs : List iM), kf rs (vs.map λv i => g i * v i) = (rs.map g).foldr (· * ·) 1 * kf rs vs
  | [], [] => by show (1 : Rat) = 1 * 1; grind
  | [], _ :: _ => by show (0 : Rat) = 1 * 0; grind
  | r :: rs, vs => by
    have := GC (r := r) (F := λws => kf rs ws) (G := λws => kf rs ws) (c := (rs.map g).foldr (· * ·) 1) (λws => yM rs ws) vs [] 1;exact this
theorem Ez {g:Nat->Rat}:∀{rs:List Nat},(∀r∈rs,g r≠0)->(rs.map g).foldr (·*·) 1≠0
 | [],_=>by show (1:Rat)≠0;decide
 | r :: rs,h=>by
  show g r*_≠0
  have h1:=h r (.head _);have h2:=Ez λr' hr'=>h r' (.tail _ hr')
  intro z;rcases CD.mp z with z | z
  ·exact h1 z
  ·exact h2 z
section
variable {rows R X K0:LR9} {due L:List Rat} {n m M W D E W0 W1:Nat} {ps:List Nat}
theorem DO (hw:∀xs∈rows,xs.length=n) (hW:1<=W) (h0:0 < M) (h3:∀xs∈rows,∀x∈xs,Tp M W x) (RR:cD rows n R ps):∃pm:Nat->Nat,(∀i j,i < ps.length->j < ps.length->pm i=pm j->i=j)/\(∀t,t < ps.length->pm t < rows.length)/\ps.length<=rows.length/\kf (pB pm ps.length) (jx (λj i=>cZ rows i (ps.getD j 0)) ps.length)≠0:=by
 have ent:=Pe h0 h3;obtain ⟨ls,ps2,d,I⟩:=Dj hw hW (by rw[ao];exact ent) n (ak _);obtain ⟨_,_,⟨pm,B⟩,E⟩:=I;rw[ao] at B E
 have RF:Hs rows.length n (cZ rows) ps2.length (λj=>ps2.getD j 0) (λi c=>fv ls i c / d):=Hs.other (E.done λi hi c hc=>Cp (n:=n) (λzs hz=>by
  obtain ⟨xs,hx,rfl⟩:=aH.mp hz;rw[yh];exact hw xs hx) hc) IK IL
 obtain ⟨e1,e2,e3⟩:=RF.uniq RR.2.2 (λ_ hi=>fB.row hi) (λ_ hi=>fB.row hi);have km:=B.km;have dt:=B.det;have d0:=B.d0
 have e4:kf (pB pm ps2.length) ([]++jx (λj r=>fv (rows.map nD) r (ps2.getD j 0)) ps2.length)=kf (pB pm ps2.length) ([]++jx (λj i=>MI rows i*cZ rows i (ps.getD j 0)) ps2.length):=E3 [] λj hj r hr=>by
  obtain ⟨t,ht,rfl⟩:=pG hr;rw[Fv (B.rng t (by lia)),e2 j hj];rfl
 have e5:jx (λj i=>MI rows i*cZ rows i (ps.getD j 0)) ps2.length=(jx (λj i=>cZ rows i (ps.getD j 0)) ps2.length).map λv i=>MI rows i*v i:=(cw_map (τ:=λv i=>MI rows i*v i)).symm
 refine ⟨pm,λi j hi hj e=>B.inj i j (by lia) (by lia) e,λt ht=>B.rng t (by lia),by lia,?_⟩;rw[<- e1];intro z;apply d0;rw[dt];have e4:kf (pB pm ps2.length) (jx (λj r=>fv (rows.map nD) r (ps2.getD j 0)) ps2.length)=kf (pB pm ps2.length) (jx (λj i=>MI rows i*cZ rows i (ps.getD j 0)) ps2.length):=e4;rw[e4,e5,yM,z,rA]
theorem OP (hd:due.length=X.length) (hw:∀xs∈X,xs.length=n) (RR:cD (dh X due) (n+1) R ps) (hn:n∉ps) {i:Nat} (hi:i < X.length):due.getD i 0=b7 ps.length λj=>cZ R j n*cZ X i (ps.getD j 0):=by
 obtain ⟨j1,j2⟩:=Ao hd hw hi;have sp:=RR.2.2.span i (by rw[rL hd];exact hi);have:=RR.2.2.coef sp n;rw[<- j2,this];refine bE λj hj=>?_
 have lo:=RR.2.2.low j hj;have ne:ps.getD j 0≠n:=λz=>hn (by rw[<- z];exact getD_in hj)
 rw[j1 _ (by lia)];exact fw _ _
theorem Jc (RR:cD X (n+1) R ps) {y:Rat} (hy:y∈gG R ps n):y=0\/∃j,j < ps.length/\y=cZ R j n:=by
 obtain ⟨c,hc,rfl⟩:=bX hy;have lc:(gG R ps n).length=n:=lF;have e:(gG R ps n)[c]=(gG R ps n).getD c 0:=by rw[ae,af hc];rfl
 rw[e];by_cases hp:c∈ps
 ·obtain ⟨j,hj,ej⟩:=bX hp
  right
  refine ⟨j,hj,?_⟩;have ej':ps.getD j 0=c:=by rw[ae,af hj];exact ej
  have:=Li (R:=R) (ps:=ps) (n:=n) (j:=ps.length) (c:=c) (by lia);unfold gG;rw[this,jv hj λi hi ne=>if_neg λz=>?_,if_pos ej'];rcases cN i j with y | y
  ·have:=RR.2.2.inc i j y hj
   lia
  ·have:=RR.2.2.inc j i (by lia) hi
   lia
 ·exact .inl (Nq hp)
theorem Qx {N Wx:Nat} {rs:List Nat} {vs:List iM} (hl:vs.length<=N) (h:∀v∈vs,∀r∈rs,Fr 1 Wx (v r)):∃z:Int,kf rs vs=(z:Rat)/\z.natAbs<=(N*Wx)^rs.length:=by
 have f:=Cq hl h;obtain ⟨z,ez⟩:=A3 f;rw[ez] at f;exact ⟨z,ez,zW f⟩
theorem Pp (hK:∀xs∈K0,xs.length=n) (hL:L.length=n) (n15:n<=15) (D0:0 < D) (E0:0 < E) (w0:1<=W0) (w1:1<=W1) (tk:∀xs∈K0,∀x∈xs,Tp D W0 x) (tl:∀x∈L,Tp E W1 x) (RR:cD (dh (cW K0 n) L) (K0.length+1) R ps) (hn:K0.length∉ps) :
  ∃q:Nat,0 < q/\q<=(16*W0)^n/\∀y∈gG R ps K0.length,Tp (E*q) (D*(n*(W1*(16*W0)^n))) y:=by
 have lt:(cW K0 n).length=n:=du;have wt:∀xs∈cW K0 n,xs.length=K0.length:=lD;have hd:L.length=(cW K0 n).length:=by rw[lt];exact hL
 have tfn:∀i,i < n->∀j,cZ (cW K0 n) i j=cZ K0 j i:=λi hi j=>by
  unfold cZ;rw[ae (l:=cW K0 n),Bm hi];show (K0.map λxs=>xs.getD i 0).getD j 0=_
  rw[ae,aM,ae (l:=K0)];cases K0[j]? with
  | none=>show (0:Rat)=([]:List Rat).getD i 0;rw[ae];rfl
  | some xs=>rfl
 have tkf:∀j i,Tp D W0 (cZ K0 j i):=λj i=>by
  unfold cZ;rw[ae (l:=K0)];by_cases hj:j < K0.length
  ·rw[af hj];exact mi (tk _ (aT hj)) i
  ·rw[aR (by lia)];show Tp D W0 (([]:List Rat).getD i 0)
   exact mi (by intro x z;cases z) i
 have tlf:∀i,Tp E W1 (L.getD i 0):=λi=>mi tl i
 have tj:∀xs∈dh (cW K0 n) L,∀x∈xs,Tp (D*E) (W0*E+W1*D) x:=Jw λi hi c=>by
  rw[rL hd,lt] at hi;obtain ⟨j1,j2⟩:=Ao hd wt (by rw[lt];exact hi);by_cases hc:c < K0.length
  ·rw[j1 c hc,tfn i hi];obtain ⟨z,e,b⟩:=tkf c i;exact ⟨z*E,by rw[eT,aW,<- e,aU];grind,by rw[dg,cg];exact ai (aA _ b) (AI _ _)⟩
  ·by_cases hc2:c=K0.length
   ·rw[hc2,j2];obtain ⟨z,e,b⟩:=tlf i;exact ⟨z*D,by rw[eT,aW,<- e,aU];grind,by rw[dg,cg];exact ai (aA _ b) (Nat.le_add_left _ _)⟩
   ·rw[Mn (yJ wt) (by lia)];exact ⟨0,by rw[nv];rfl,bx _⟩
 obtain ⟨pm,pinj,plt,kn,dne⟩:=DO (yJ wt) (W:=W0*E+W1*D) (ai (bU w0 E0) (AI _ _)) (bU D0 E0) tj RR;rw[rL hd,lt] at plt kn
 have pl:∀j,j < ps.length->ps.getD j 0 < K0.length:=λj hj=>by
  have lo:=RR.2.2.low j hj;have ne:ps.getD j 0≠K0.length:=λz=>hn (by rw[<- z];exact getD_in hj)
  lia
 have Dne:(D:Rat)≠0:=λz=>by
  have:((D:Int):Rat)=0:=by rw[aU];exact z
  have:=vH this
  lia
 have Ene:(E:Rat)≠0:=λz=>by
  have:((E:Int):Rat)=0:=by rw[aU];exact z
  have:=vH this
  lia
 have rlt:∀r∈pB pm ps.length,r < n:=λr hr=>by
  obtain ⟨t,ht,rfl⟩:=pG hr;exact plt t ht
 obtain ⟨v,ev⟩:∃v:Nat->iM,v=λj i=>(D:Rat)*cZ K0 (ps.getD j 0) i:=⟨_,rfl⟩
 have vint:∀j r,Fr 1 W0 (v j r):=λj r=>by
  obtain ⟨z,e,b⟩:=tkf (ps.getD j 0) r;rw[ev];show Fr 1 W0 ((D:Rat)*_)
  rw[fw,e];exact Fr.int b
 have den:kf (pB pm ps.length) (jx v ps.length)≠0:=by
  have e1:kf (pB pm ps.length) ([]++jx v ps.length)=kf (pB pm ps.length) ([]++jx (λj i=>(D:Rat)*cZ (dh (cW K0 n) L) i (ps.getD j 0)) ps.length):=E3 [] λj hj r hr=>by
   have hr:=rlt r hr;obtain ⟨j1,_⟩:=Ao hd wt (i:=r) (by rw[lt];exact hr);rw[j1 _ (pl j hj),tfn r hr,ev]
  have e2:jx (λj i=>(D:Rat)*cZ (dh (cW K0 n) L) i (ps.getD j 0)) ps.length=(jx (λj i=>cZ (dh (cW K0 n) L) i (ps.getD j 0)) ps.length).map λv i=>(λ_=>(D:Rat)) i*v i:=(cw_map (τ:=λv i=>(D:Rat)*v i)).symm
  have e1:kf (pB pm ps.length) (jx v ps.length)=kf (pB pm ps.length) (jx (λj i=>(D:Rat)*cZ (dh (cW K0 n) L) i (ps.getD j 0)) ps.length):=e1;rw[e1,e2,yM];intro z;rcases CD.mp z with z | z
  ·exact Ez (g:=λ_=>(D:Rat)) (λ_ _=>Dne) z
  ·exact dne z
 obtain ⟨q,eq,bq⟩:=Qx (N:=16) (Wx:=W0) (rs:=pB pm ps.length) (vs:=jx v ps.length) (by rw[cw_len];lia) λw hw r _=>by
  obtain ⟨t,_,rfl⟩:=cw_in hw;exact vint t r
 rw[xR] at bq;have up:(16*W0)^ps.length<=(16*W0)^n:=au (by lia) kn;have q0:q≠0:=λz=>den (by rw[eq,z];rfl)
 refine ⟨q.natAbs,by lia,ai bq up,λy hy=>?_⟩;rcases Jc RR hy with rfl | ⟨i,hi,rfl⟩
 ·exact ⟨0,by rw[nv];rfl,bx _⟩
 ·have hW:∀r∈pB pm ps.length,(E:Rat)*L.getD r 0=b7 ps.length λj=>((E:Rat)*cZ R j K0.length / D)*v j r:=λr hr=>by
   have hr:=rlt r hr;rw[OP hd wt RR hn (i:=r) (by rw[lt];exact hr),<- dM];refine bE λj hj=>?_
   rw[tfn r hr,ev]
   dsimp only
   grind
  have cr:=zX (v:=v) (c:=λj=>(E:Rat)*cZ R j K0.length / D) (W:=λr=>(E:Rat)*L.getD r 0) hi hW
  have ex:kf (pB pm ps.length) (Iy v i ps.length++(λr=>(E:Rat)*L.getD r 0) :: jx v i)=b7 ps.length λt=>((E:Rat)*L.getD (pm t) 0)*kf (pB pm ps.length) (Iy v i ps.length++(λr=>if r=pm t then 1 else 0) :: jx v i):=EZ (W:=λ_=>0) (v:=λt r=>if r=pm t then 1 else 0) (c:=λt=>(E:Rat)*L.getD (pm t) 0) _ _ (λr hr=>by
   obtain ⟨t,ht,rfl⟩:=pG hr;rw[jv ht λj hj ne=>by rw[if_neg λz=>ne (pinj j t hj ht z.symm),rA],if_pos rfl,MR])
  have hlen:∀x:iM,(Iy v i ps.length++x :: jx v i).length<=16:=λx=>by
   have:=congrArg List.length (cw_split (v:=v) hi);rw[av,bR,cw_len] at this;rw[av,bR]
   lia
  have nf:Fr 1 (n*(W1*(16*W0)^n)) (kf (pB pm ps.length) (Iy v i ps.length++(λr=>(E:Rat)*L.getD r 0) :: jx v i)):=by
   rw[ex];refine (Mm (V:=W1*(16*W0)^n) λt ht=>?_).mono (aA _ kn);obtain ⟨z,e,b⟩:=tlf (pm t)
   have f1:Fr 1 W1 ((E:Rat)*L.getD (pm t) 0):=by
    rw[fw,e];exact Fr.int b
   have f2:=Cq (W:=W0) (N:=16) (rs:=pB pm ps.length) (hlen λr=>if r=pm t then 1 else 0) λw hw r _=>by
    rcases ay.mp hw with hw | hw
    ·obtain ⟨s,_,rfl⟩:=GR hw;exact vint s r
    ·rcases aD.mp hw with rfl | hw
     ·dsimp only
      split
      ·exact Fr.one w0
      ·exact Fr.zero
     ·obtain ⟨s,_,rfl⟩:=cw_in hw;exact vint s r
   rw[xR] at f2;have:=f1.mul f2;rw[uK] at this;exact this.mono (aF _ up)
  obtain ⟨z,ez⟩:=A3 nf;rw[ez] at nf cr;have bz:=zW nf;rw[eq] at cr
  have key:cZ R i K0.length*((E:Rat)*(q:Rat))=(D:Rat)*(z:Rat):=by
   rw[cr];grind
  have kq:(((E*q.natAbs:Nat):Rat))=(E:Rat)*((q.natAbs:Nat):Rat):=eT ..;rcases Q1 q with h | h
  ·have hq:((q.natAbs:Nat):Rat)=(q:Rat):=by rw[<- aU,<- h]
   refine ⟨D*z,?_,by rw[dg,cg];exact aF _ bz⟩;rw[kq,hq,key,aW,aU]
  ·have hq:((q.natAbs:Nat):Rat)=-(q:Rat):=by rw[<- aU,<- dS];congr 1;lia
   refine ⟨-(D*z),?_,by rw[xN,dg,cg];exact aF _ bz⟩;rw[kq,hq,dS,aW,aU,<- key];grind
theorem Lp {pm w : Nat → Nat} {X Y s : Nat} (hX : 1 ≤ X) (hY : 1 ≤ Y) (h1 : ∀ r, r ≠ s → w r ≤ X) (h2 : w s ≤ Y) : ∀ k, (∀ i j, i < k → j < k → pm i = pm j → i = j) → ((∃ t, t < k /\ pm t = s) → ((pB pm k).map w).foldr (· * ·) 1 ≤ X ^ k * Y) /\ ((∀ t, t < k → pm t ≠ s) → ((pB pm k).map w).foldr (· * ·) 1 ≤ X ^ k)
  | 0, _ => ⟨λ⟨t, h, _⟩ => absurd h (fI _), λ_ => ak _⟩
  | k + 1, inj => by
    obtain ⟨i1, i2⟩ := Lp (pm := pm) (w := w) hX hY h1 h2 k λi j hi hj => inj i j (by lia) (by lia)
    have mul : ((pB pm (k + 1)).map w).foldr (· * ·) 1 = w (pm k) * ((pB pm k).map w).foldr (· * ·) 1 := rfl;refine ⟨λ⟨t, ht, et⟩ => ?_, λh => ?_⟩
    · rw [mul];by_cases e : pm k = s
      · have := i2 λt' ht' z => by
          have := inj t' k (by lia) (by lia) (z.trans e.symm)
          lia
        rw [e]
        calc w s * _ ≤ Y * X ^ k := aJ h2 this
          _ = X ^ k * Y := b6 _ _
          _ ≤ X ^ (k + 1) * Y := aA _ (au hX (uL _))
      · have := i1 ⟨t, by rcases cN t k with z | z; exact z; exact absurd (by rw [show k = t by lia]; exact et) e, et⟩
        calc w (pm k) * _ ≤ X * (X ^ k * Y) := aJ (h1 _ e) this
          _ = X ^ (k + 1) * Y := by rw [eK, <- cy, b6 X]
    · rw [mul, eK, b6 (X ^ k)];exact aJ (h1 _ (h k (by lia))) (i2 λt ht => h t (by lia))
theorem Ny {pm w:Nat->Nat} {X Y s:Nat} (hX:1<=X) (hY:1<=Y) (h1:∀r,r≠s->w r<=X) (h2:w s<=Y) {k n:Nat} (hk:k<=n) (inj:∀i j,i < k->j < k->pm i=pm j->i=j):((pB pm k).map w).foldr (·*·) 1<=X^n*Y:=by
 obtain ⟨a,b⟩:=Lp (pm:=pm) (w:=w) hX hY h1 h2 k inj;have up:X^k<=X^n:=au hX hk;by_cases e:∃t,t < k/\pm t=s
 ·exact ai (a e) (aA _ up)
 ·exact ai (b λt ht z=>e ⟨t,ht,z⟩) (ai up (dA _ hY))
theorem LD (hK:∀xs∈K0,xs.length=n) (hL:L.length=n) (n15:n<=15) (D0:0 < D) (E0:0 < E) (w0:1<=W0) (tk:∀xs∈K0,∀x∈xs,Tp D W0 x) (tl:∀x∈L,Tp E W1 x) (RR:cD (dh (K0++[L]) (List.replicate K0.length 0++[1])) (n+1) R ps) (hn:n∉ps) :
  ∃q:Nat,0 < q/\q<=(16*W0)^n*(16*(W1+E))/\∀y∈gG R ps n,Tp q ((16*W0)^n*(16*(W1+E))) y:=by
 have hw:∀xs∈K0++[L],xs.length=n:=λxs hx=>by
  rcases ay.mp hx with hx | hx
  ·exact hK xs hx
  ·rw[bN.mp hx];exact hL
 have hd:(List.replicate K0.length (0:Rat)++[1]).length=(K0++[L]).length:=by simp
 have lX:(K0++[L]).length=K0.length+1:=by simp
 have due:∀i,i < K0.length+1->(List.replicate K0.length (0:Rat)++[1]).getD i 0=if i=K0.length then 1 else 0:=λi hi=>by
  rw[ae];by_cases e:i=K0.length
  ·rw[ba (by simp;lia),if_pos e];simp [e]
  ·rw[bA (by simp;lia),if_neg e,fG,if_pos (by lia)];rfl
 have tX:∀i c,Tp (if i=K0.length then E else D) (if i=K0.length then W1 else W0) (cZ (K0++[L]) i c):=λi c=>by
  by_cases e:i=K0.length
  ·rw[if_pos e,if_pos e,e];have:=OA (X:=K0) (Y:=[L]) (i:=0);rw[Nat.add_zero] at this;rw[this];exact mi tl c
  ·rw[if_neg e,if_neg e];by_cases h:i < K0.length
   ·rw[MM h];unfold cZ;rw[ae (l:=K0),af h];exact mi (tk _ (aT h)) c
   ·unfold cZ;rw[ae (l:=K0++[L]),aR (by rw[lX];lia)];exact mi (by intro x z;cases z) c
 have tj:∀xs∈dh (K0++[L]) (List.replicate K0.length 0++[1]),∀x∈xs,Tp (D*E) (W0*E+W1*D+D*E) x:=Jw λi hi c=>by
  rw[rL hd] at hi;obtain ⟨j1,j2⟩:=Ao hd hw hi;by_cases hc:c < n
  ·rw[j1 c hc];obtain ⟨z,e,b⟩:=tX i c;by_cases h:i=K0.length
   ·rw[if_pos h] at e b;exact ⟨z*D,by rw[eT,aW,<- e,aU];grind,by rw[dg,cg];have:=aA D b;lia⟩
   ·rw[if_neg h] at e b;exact ⟨z*E,by rw[eT,aW,<- e,aU];grind,by rw[dg,cg];have:=aA E b;lia⟩
  ·by_cases hc2:c=n
   ·rw[hc2,j2,due i (by lia)]
    split
    ·exact ⟨(D*E:Nat),by rw[Rat.one_mul,aU],by rw[cg];lia⟩
    ·exact ⟨0,by rw[nv];rfl,bx _⟩
   ·rw[Mn (yJ hw) (by lia)];exact ⟨0,by rw[nv];rfl,bx _⟩
 obtain ⟨pm,pinj,plt,_,dne⟩:=DO (yJ hw) (W:=W0*E+W1*D+D*E) (by have:=bU D0 E0;lia) (bU D0 E0) tj RR;rw[rL hd,lX] at plt
 have pl:∀j,j < ps.length->ps.getD j 0 < n:=λj hj=>by
  have lo:=RR.2.2.low j hj;have ne:ps.getD j 0≠n:=λz=>hn (by rw[<- z];exact getD_in hj)
  lia
 have kn:ps.length<=n:=by
  have inc:∀j,j < ps.length->j<=ps.getD j 0:=by
   intro j
   induction j with
   | zero=>intro _;exact bx _
   | succ j ih =>
    intro hj;have:=ih (by lia);have:=RR.2.2.inc j (j+1) (by lia) hj
    lia
  rcases fh ps.length with z | z
  ·lia
  ·have:=inc (ps.length - 1) (by lia);have:=pl (ps.length - 1) (by lia)
   lia
 obtain ⟨g,eg⟩:∃g:Nat->Rat,g=λi=>((if i=K0.length then E else D:Nat):Rat):=⟨_,rfl⟩
 have gne:∀i,g i≠0:=λi z=>by
  rw[eg] at z;have z:(((if i=K0.length then E else D:Nat):Int):Rat)=0:=by rw[aU];exact z
  have:=vH z
  split at this <;> lia
 have rlt:∀r∈pB pm ps.length,r < K0.length+1:=λr hr=>by
  obtain ⟨t,ht,rfl⟩:=pG hr;exact plt t ht
 obtain ⟨v,ev⟩:∃v:Nat->iM,v=λj i=>g i*cZ (K0++[L]) i (ps.getD j 0):=⟨_,rfl⟩
 obtain ⟨wt,ew⟩:∃wt:Nat->Nat,wt=λi=>if i=K0.length then W1+E else W0:=⟨_,rfl⟩
 have vint:∀j r,Fr 1 (wt r) (v j r):=λj r=>by
  obtain ⟨z,e,b⟩:=tX r (ps.getD j 0);rw[ev,eg,ew];show Fr 1 _ (_*_)
  rw[fw,e];refine (Fr.int b).mono ?_
  dsimp only
  split <;> lia
 have bnd:∀{vs:List iM},vs.length<=16->(∀w∈vs,∀r∈pB pm ps.length,Fr 1 (wt r) (w r))->∃z:Int,kf (pB pm ps.length) vs=(z:Rat)/\z.natAbs<=(16*W0)^n*(16*(W1+E)):=λ{vs} hl h=>by
  have f:=Mu hl h;obtain ⟨z,ez⟩:=A3 f;rw[ez] at f;refine ⟨z,ez,ai (zW f) (Ny (s:=K0.length) (by lia) (by lia) (λr hr=>?_) ?_ kn pinj)⟩
  ·rw[ew];dsimp only;rw[if_neg hr];exact ak _
  ·rw[ew];dsimp only;rw[if_pos rfl];exact ak _
 have den:kf (pB pm ps.length) (jx v ps.length)≠0:=by
  have e1:kf (pB pm ps.length) ([]++jx v ps.length)=kf (pB pm ps.length) ([]++jx (λj i=>g i*cZ (dh (K0++[L]) (List.replicate K0.length 0++[1])) i (ps.getD j 0)) ps.length):=E3 [] λj hj r hr=>by
   have hr:=rlt r hr;obtain ⟨j1,_⟩:=Ao hd hw (i:=r) (by rw[lX];exact hr);rw[j1 _ (pl j hj),ev]
  have e2:jx (λj i=>g i*cZ (dh (K0++[L]) (List.replicate K0.length 0++[1])) i (ps.getD j 0)) ps.length=(jx (λj i=>cZ (dh (K0++[L]) (List.replicate K0.length 0++[1])) i (ps.getD j 0)) ps.length).map λv i=>g i*v i:=(cw_map (τ:=λv i=>g i*v i)).symm
  have e1:kf (pB pm ps.length) (jx v ps.length)=kf (pB pm ps.length) (jx (λj i=>g i*cZ (dh (K0++[L]) (List.replicate K0.length 0++[1])) i (ps.getD j 0)) ps.length):=e1;rw[e1,e2,yM];intro z;rcases CD.mp z with z | z
  ·exact Ez (λr _=>gne r) z
  ·exact dne z
 obtain ⟨q,eq,bq⟩:=bnd (vs:=jx v ps.length) (by rw[cw_len];lia) λw hw r _=>by
  obtain ⟨t,_,rfl⟩:=cw_in hw;exact vint t r
 have q0:q≠0:=λz=>den (by rw[eq,z];rfl)
 refine ⟨q.natAbs,by lia,bq,λy hy=>?_⟩;rcases Jc RR hy with rfl | ⟨i,hi,rfl⟩
 ·exact ⟨0,by rw[nv];rfl,bx _⟩
 ·have hW:∀r∈pB pm ps.length,g r*(if r=K0.length then 1 else 0)=b7 ps.length λj=>cZ R j n*v j r:=λr hr=>by
   have hr:=rlt r hr;rw[<- due r hr,OP hd hw RR hn (i:=r) (by rw[lX];exact hr),<- dM];refine bE λj hj=>?_
   rw[ev]
   dsimp only
   grind
  have cr:=zX (v:=v) (c:=λj=>cZ R j n) (W:=λr=>g r*(if r=K0.length then 1 else 0)) hi hW
  obtain ⟨z,ez,bz⟩:=bnd (vs:=Iy v i ps.length++(λr=>g r*(if r=K0.length then 1 else 0)) :: jx v i) (by
   have:=congrArg List.length (cw_split (v:=v) hi);rw[av,bR,cw_len] at this;rw[av,bR]
   lia) λw hw r _=>by
    rcases ay.mp hw with hw | hw
    ·obtain ⟨s,_,rfl⟩:=GR hw;exact vint s r
    ·rcases aD.mp hw with rfl | hw
     ·dsimp only
      by_cases e:r=K0.length
      ·rw[if_pos e,MR,eg,ew]
       dsimp only
       rw[if_pos e,if_pos e,<- aU];exact Fr.int (by rw[cg];lia)
      ·rw[if_neg e,rA];exact Fr.zero
     ·obtain ⟨s,_,rfl⟩:=cw_in hw;exact vint s r
  rw[ez,eq] at cr;have key:cZ R i n*(q:Rat)=(z:Rat):=cr.symm;rcases Q1 q with h | h
  ·have hq:((q.natAbs:Nat):Rat)=(q:Rat):=by rw[<- aU,<- h]
   exact ⟨z,by rw[hq,key],bz⟩
  ·have hq:((q.natAbs:Nat):Rat)=-(q:Rat):=by rw[<- aU,<- dS];congr 1;lia
   exact ⟨-z,by rw[hq,dS,<- key];grind,by rw[xN];exact bz⟩
end
def jK (mv:LR9):Nat->List Rat->List Rat
 | 0,x=>x
 | t+1,x=>uO mv (jK mv t x)
section
variable {mv pt lk pus:LR9} {st pu go:List Rat} {n t T c:Nat}
theorem kE (h:st.length=mv.length):∀t,(jK mv t st).length=mv.length
 | 0=>h
 | _+1=>EB
theorem Mi {x y:List Rat} (h:x.length=y.length) (e:∀c,c < x.length->x.getD c 0=y.getD c 0):x=y:=by
 apply ee h;intro c h1 h2;have:=e c h1;rwa [ae,ae,af h1,af h2] at this
theorem RP (wm:∀xs∈mv,xs.length=mv.length) (h:st.length=mv.length) (hc:c < mv.length):(uO mv st).getD c 0=b7 mv.length λj=>cZ mv c j*st.getD j 0:=by
 have e:(uO mv st).getD c 0=eC mv[c] st:=by
  unfold uO;rw[ae,aM,af hc];rfl
 have wc:=wm _ (aT hc);rw[e,gP (by lia),wc];refine bE λj _=>?_
 unfold cZ;rw[ae (l:=mv),af hc];rfl
theorem LS (D:fM mv pt lk) (h:st.length=mv.length) (hp:pu.length=pt.length) (hc:c < mv.length):(ie mv pt st pu).getD c 0=b7 mv.length (λj=>cZ mv c j*st.getD j 0)+b7 pt.length λi=>pu.getD i 0*cZ pt i c:=by
 have wc:=D.mw _ (aT hc)
 have e:(ie mv pt st pu).getD c 0=eC (mv[c]++pt.map λxs=>xs.getD c 0) (st++pu):=by
  unfold ie;rw[ae,b9,af hc,Bm hc];rfl
 rw[e,vF (by lia),gP (by lia),gP (by rw[ao];lia),wc,ao];congr 1
 ·refine bE λj _=>?_
  unfold cZ;rw[ae (l:=mv),af hc];rfl
 ·refine bE λi hi=>?_
  rw[fw];congr 1;unfold cZ;rw[ae,aM,ae (l:=pt),af hi];rfl
theorem yI:∀t,(kry mv pt t).length=t*pt.length
 | 0=>by rw[Nat.zero_mul];rfl
 | t+1=>by
  show (pt++(kry mv pt t).map (uO mv)).length=_
  rw[av,ao,yI t,dI,xg]
theorem IU (D:fM mv pt lk) (ls:st.length=mv.length):∀k,k<=pus.length->(∀xs∈pus,xs.length=pt.length)->∀c,c < mv.length->(sP mv pt st pus k).getD c 0=(jK mv k st).getD c 0+b7 (kry mv pt k).length λi=>((pus.take k).reverse.flatten).getD i 0*cZ (kry mv pt k) i c:=by
 intro k
 induction k with
 | zero =>
  intro _ _ c _;show st.getD c 0=st.getD c 0+0
  grind
 | succ k ih =>
  intro hk hp c hc;have hk':k < pus.length:=hk;have e:=af hk';have hl:=hp _ (aT hk');have ls':=sO (pt:=pt) (pus:=pus) ls (k:=k) (by lia)
  have lf:((pus.take k).reverse.flatten).length=(kry mv pt k).length:=by
   rw[yI,GK (i:=pt.length) λxs hx=>hp xs (cA (AJ.mp hx)),nV,cT,uP (by lia)]
  rw[uW e,LS D ls' hl hc]
  have er:(pus.take (k+1)).reverse.flatten=pus[k]++(pus.take k).reverse.flatten:=by
   rw[take_snoc e,List.reverse_append];simp
  have ek:kry mv pt (k+1)=pt++(kry mv pt k).map (uO mv):=rfl;rw[er,ek,av,ao,zE]
  have p1:(b7 pt.length λi=>(pus[k]++(pus.take k).reverse.flatten).getD i 0*cZ (pt++(kry mv pt k).map (uO mv)) i c)=b7 pt.length λi=>pus[k].getD i 0*cZ pt i c:=bE λi hi=>by
   rw[MM hi,ae,bA (by lia),ae]
  have p2:(b7 (kry mv pt k).length λi=>(pus[k]++(pus.take k).reverse.flatten).getD (pt.length+i) 0*cZ (pt++(kry mv pt k).map (uO mv)) (pt.length+i) c)=b7 mv.length λj=>cZ mv c j*b7 (kry mv pt k).length λi=>((pus.take k).reverse.flatten).getD i 0*cZ (kry mv pt k) i j:=by
   have q1:∀i,i < (kry mv pt k).length->(pus[k]++(pus.take k).reverse.flatten).getD (pt.length+i) 0*cZ (pt++(kry mv pt k).map (uO mv)) (pt.length+i) c=b7 mv.length λj=>cZ mv c j*(((pus.take k).reverse.flatten).getD i 0*cZ (kry mv pt k) i j):=λi hi=>by
    rw[OA,LL rfl D.mw (iI rfl D.pw k) hi,ae,ba (by lia),hl,Sq,<- ae,<- dM];exact bE λj _=>by grind
   rw[bE q1,lE];exact bE λj _=>dM
  rw[p1,p2];have p3:(jK mv (k+1) st).getD c 0=b7 mv.length λj=>cZ mv c j*(jK mv k st).getD j 0:=RP D.mw (kE ls k) hc
  rw[p3]
  have p4:(b7 mv.length λj=>cZ mv c j*(sP mv pt st pus k).getD j 0)=(b7 mv.length λj=>cZ mv c j*(jK mv k st).getD j 0)+b7 mv.length λj=>cZ mv c j*b7 (kry mv pt k).length λi=>((pus.take k).reverse.flatten).getD i 0*cZ (kry mv pt k) i j:=by
   rw[<- uV];refine bE λj hj=>?_
   rw[ih (by lia) hp j hj];grind
  rw[p4];grind
end
section
variable {mv pt lk pus R:LR9} {st pu go w pr L:List Rat} {n t T c u k:Nat} {ps:List Nat}
theorem Lc (D:fM mv pt lk) (ls:st.length=mv.length):sP mv pt st (List.replicate T (List.replicate pt.length 0)) T=jK mv T st:=by
 have l1:=sO (pt:=pt) (pus:=List.replicate T (List.replicate pt.length 0)) ls (k:=T) (by rw[aI];exact ak _);refine Mi (by rw[l1,kE ls]) λc hc=>?_
 rw[l1] at hc;rw[IU D ls T (by rw[aI];exact ak _) (λxs hx=>by rw[(dB.mp hx).2,aI]) c hc,dZ λi _=>?_,xf]
 have z:(((List.replicate T (List.replicate pt.length (0:Rat))).take T).reverse.flatten).getD i 0=0:=by
  rw[ae];cases e:(((List.replicate T (List.replicate pt.length (0:Rat))).take T).reverse.flatten)[i]? with
  | none=>rfl
  | some y =>
   have:=aw e;obtain ⟨l,hl,hy⟩:=ju.mp this;have hl:=cA (AJ.mp hl);rw[(dB.mp hl).2] at hy;exact (dB.mp hy).2
 rw[z,nv]
def gF (mv:LR9) (T:Nat) (st go:List Rat):List Rat:=List.zipWith (λx y=>x - y) go (jK mv T st)
theorem GH (ls:st.length=mv.length) (lg:go.length=mv.length):(gF mv T st go).length=mv.length:=by
 unfold gF;rw[cX,kE ls,lg,JN]
theorem O9 {x y:List Rat} (h:x.length=y.length) (hc:c < x.length):(List.zipWith (λx y=>x - y) x y).getD c 0=x.getD c 0 - y.getD c 0:=by
 rw[ae,b9,ae (l:=x),ae (l:=y),af hc,af (by lia)];rfl
theorem Jq:∀u,∃Z,kry mv pt (u+1)=kry mv pt u++Z
 | 0=>⟨pt++[],rfl⟩
 | u+1=>by
  obtain ⟨Z,e⟩:=Jq u;refine ⟨Z.map (uO mv),?_⟩;show pt++(kry mv pt (u+1)).map (uO mv)=(pt++(kry mv pt u).map (uO mv))++_
  rw[e,cS,cF]
theorem GI {u:Nat}:∀s,∃Z,kry mv pt (u+s)=kry mv pt u++Z
 | 0=>⟨[],by rw[oY];rfl⟩
 | s+1=>by
  obtain ⟨Z,e⟩:=GI (u:=u) s;obtain ⟨Y,e'⟩:=Jq (mv:=mv) (pt:=pt) (u+s);exact ⟨Z++Y,by rw[<- Nat.add_assoc,e',e,cF]⟩
def AR (w:List Rat) (u k:Nat):LR9:=(List.range u).map λt=>(w.drop (t*k)).take k
theorem GS:∀{u:Nat} {w:List Rat},w.length=u*k->(AR w u k).flatten=w
 | 0,w,h=>by
  rw[Nat.zero_mul] at h;rw[List.length_eq_zero_iff.mp h];rfl
 | u+1,w,h=>by
  have e:AR w (u+1) k=AR (w.take (u*k)) u k++[w.drop (u*k)]:=by
   unfold AR;rw[MZ,cS];congr 1
   ·refine List.map_congr_left λt ht=>?_
    have ht:=D8.mp ht;have:t*k+k<=u*k:=by rw[<- dI];exact aA _ ht
    rw[List.drop_take,List.take_take,uP (by lia)]
   ·show [(w.drop (u*k)).take k]=_
    rw[aG (by rw[KS,h,dI];lia)]
  rw[e,jq,GS (by rw[cT,h,dI];lia)];simp
theorem Sb (h:w.length=u*k):∀xs∈AR w u k,xs.length=k:=λxs hx=>by
 obtain ⟨t,ht,rfl⟩:=aH.mp hx;have ht:=D8.mp ht;have:t*k+k<=u*k:=by rw[<- dI];exact aA _ ht
 rw[cT,KS]
 lia
theorem ME {x:Rat} {xs:List Rat} (hx:xs∈AR w u k) (hx':x∈xs):x∈w:=by
 obtain ⟨t,_,rfl⟩:=aH.mp hx;exact List.mem_of_mem_drop (cA hx')
def BJ (w:List Rat) (T u k:Nat):LR9:=List.replicate (T - u) (List.replicate k 0)++(AR w u k).reverse
theorem Je (hu:u<=T):(BJ w T u k).length=T:=by
 unfold BJ AR;rw[av,aI,nV,ao,cE]
 lia
theorem OT (h:w.length=u*k):∀xs∈BJ w T u k,xs.length=k:=λxs hx=>by
 rcases ay.mp hx with hx | hx
 ·rw[(dB.mp hx).2,aI]
 ·exact Sb h xs (AJ.mp hx)
theorem N2 {P:Rat->Prop} (h0:P 0) (h:∀x∈w,P x):∀xs∈BJ w T u k,∀x∈xs,P x:=λxs hx x hx'=>by
 rcases ay.mp hx with hx | hx
 ·rw[(dB.mp hx).2] at hx';rw[(dB.mp hx').2];exact h0
 ·exact h x (ME (AJ.mp hx) hx')
theorem Lq {T k:Nat}:(List.replicate T (List.replicate k (0:Rat))).flatten=List.replicate (T*k) 0:=by
 rw[List.flatten_replicate_replicate]
theorem Iz (D:fM mv pt lk) (ls:st.length=mv.length) (lg:go.length=mv.length) (hu:u<=T) (hw:w.length=(kry mv pt u).length) (e:Pc (kry mv pt u) w mv.length=gF mv T st go):sP mv pt st (BJ w T u pt.length) T=go:=by
 have hw':w.length=u*pt.length:=by rw[hw,yI]
 have lp:=Je (w:=w) (k:=pt.length) hu;have l1:=sO (pt:=pt) (pus:=BJ w T u pt.length) ls (k:=T) (by lia);refine Mi (by rw[l1,lg]) λc hc=>?_
 rw[l1] at hc;rw[IU D ls T (by lia) (OT hw') c hc,aG (by lia)]
 have er:(BJ w T u pt.length).reverse.flatten=w++List.replicate ((T - u)*pt.length) 0:=by
  unfold BJ;rw[List.reverse_append,List.reverse_reverse,jq,GS hw',List.reverse_replicate,Lq]
 obtain ⟨Z,eZ⟩:=GI (mv:=mv) (pt:=pt) (u:=u) (T - u);rw[show u+(T - u)=T by lia] at eZ;rw[er,eZ,av,zE]
 have p1:(b7 (kry mv pt u).length λi=>(w++List.replicate ((T - u)*pt.length) 0).getD i 0*cZ (kry mv pt u++Z) i c)=(gF mv T st go).getD c 0:=by
  rw[<- e,IM hc,hw];exact bE λi hi=>by rw[MM hi,ae,bA (by lia),ae]
 have p2:(b7 Z.length λi=>(w++List.replicate ((T - u)*pt.length) 0).getD ((kry mv pt u).length+i) 0*cZ (kry mv pt u++Z) ((kry mv pt u).length+i) c)=0:=dZ λi _=>by
  have z:(w++List.replicate ((T - u)*pt.length) (0:Rat)).getD ((kry mv pt u).length+i) 0=0:=by
   rw[ae,ba (by lia),fG]
   split <;> rfl
  rw[z,nv]
 rw[p1,p2,xf];unfold gF;rw[O9 (by rw[lg,kE ls]) (by lia)];grind
theorem Kb {ps':List Nat} (wp:∀xs∈pt,xs.length=mv.length) (RRu:cD (kry mv pt u) mv.length R ps) (RRT:cD (kry mv pt T) mv.length R ps') (lp:pr.length=mv.length) (h:∀xs∈kry mv pt u,eC xs pr=0):∀xs∈kry mv pt T,eC xs pr=0:=λxs hx=>by
 have wu:=iI (mv:=mv) rfl wp u;have wT:=iI (mv:=mv) rfl wp T;obtain ⟨i,hi,rfl⟩:=bX hx;have s1:fB (kry mv pt u).length (cZ (kry mv pt u)) (cZ (kry mv pt T) i):=fB.trans (λt ht=>RRu.2.2.back t (by rw[<- RRu.1,RRT.1];exact ht)) (RRT.2.2.span i hi);obtain ⟨v,hv⟩:=s1
 have fn:∀{X:LR9} {i:Nat} (h:i < X.length) (c:Nat),X[i].getD c 0=cZ X i c:=λ{X i} h c=>by
  unfold cZ;rw[ae (l:=X),af h];rfl
 have w1:=wT _ (aT hi);rw[gP (by lia),w1]
 have e1:(b7 mv.length λc=>(kry mv pt T)[i].getD c 0*pr.getD c 0)=b7 (kry mv pt u).length λt=>v t*b7 mv.length λc=>cZ (kry mv pt u) t c*pr.getD c 0:=by
  have q:∀c,c < mv.length->(kry mv pt T)[i].getD c 0*pr.getD c 0=b7 (kry mv pt u).length λt=>v t*(cZ (kry mv pt u) t c*pr.getD c 0):=λc _=>by
   rw[fn hi c,hv c,fw,<- dM];exact bE λt _=>by grind
  rw[bE q,lE];exact bE λt _=>dM
 rw[e1];refine dZ λt ht=>?_
 have w2:=wu _ (aT ht);have:=h _ (aT ht);rw[gP (by lia),w2] at this
 have q:(b7 mv.length λc=>cZ (kry mv pt u) t c*pr.getD c 0)=0:=by
  refine Eq.trans ?_ this;exact bE λc _=>by rw[fn ht c]
 rw[q,rA]
end
def C7 (l:Addr):Hp:=λq=>if q=l then some (.lst []) else none
theorem off_ne {l:Addr}:C7 l l≠none:=by unfold C7;rw[if_pos rfl];exact λz=>nomatch z
theorem LO {l q:Addr} (h:q≠l):C7 l q=none:=by unfold C7;rw[if_neg h]
def KQ (K:FG9) (l:Addr) (H:Hp) (R:LR9) (v:V):Prop:=∃q,v=V.ref q/\q≠l/\bP K (C7 l) H q R
section
variable {K:FG9} {H0 H H':Hp} {l p q:Addr} {R:LR9} {v:V} {mv pt:LR9} {u T:Nat}
theorem bP.off (h:bP K H0 H p R) (hl:H l=none):p≠l/\bP K (C7 l) H p R:=by
 obtain ⟨xs,g,r,n⟩:=h;refine ⟨λz=>(by rw[z,hl] at g;cases g),xs,g,Paired.imp' (λ_ _ ⟨q,a,b,c⟩=>⟨q,a,LO λz=>?_,c⟩) r,n⟩;obtain ⟨_,gg,_⟩:=c;rw[z,hl] at gg;cases gg
theorem KQ.same (h:KQ K l H R v) (s:aE H H'):KQ K l H' R v:=by obtain ⟨q,a,b,c⟩:=h;exact ⟨q,a,b,c.same s⟩
theorem KQ.upd {ys zs:List V} (h:KQ K l H R v) (g:H l=some (.lst ys)):KQ K l (upd H l (.lst zs)) R v:=by obtain ⟨q,a,b,c⟩:=h;exact ⟨q,a,b,c.updL g off_ne b⟩
def KH (mv pt:LR9) (u:Nat):List (LR9):=(List.range u).map λs=>pt.map (jK mv s)
theorem Fg:KH mv pt (u+1)=KH mv pt u++[pt.map (jK mv u)]:=by unfold KH;rw[MZ,cS];rfl
theorem wO:∀u,(KH mv pt u).flatten=kry mv pt u
 | 0=>rfl
 | u+1=>by
  have e:KH mv pt (u+1)=pt :: (KH mv pt u).map (List.map (uO mv)):=by
   unfold KH;rw[List.range_succ_eq_map,iD,xh];congr 1
   ·exact jB pt
   ·rw[xh];refine List.map_congr_left λs _=>?_
    show pt.map (jK mv (s+1))=(pt.map (jK mv s)).map (uO mv)
    rw[xh];rfl
  rw[e,iu,<- List.map_flatten,wO u];rfl
theorem QE {s:Nat} {xs:List Rat} (h:xs∈pt.map (jK mv s)):xs∈kry mv pt (s+1):=by
 rw[<- wO,Fg,jq];exact bG _ (by simpa using h)
theorem uN.fitP {a c s:Nat} (F:uN mv pt a c) (wm:∀xs∈mv,xs.length=mv.length) (wp:∀xs∈pt,xs.length=mv.length) (hs:s+1<=mv.length):∀xs∈mv,∀r∈pt.map (jK mv s),Ab xs r:=λxs hx r hr=>by
 obtain ⟨M,V,M0,Ma,hV,fm,fp,a3,c3,e14,_⟩:=F;have f:=L6 rfl wm wp hV fm fp (s+1) r (QE hr);have V1:V<=2^c:=ai (cI _ (by lia)) hV;have e1:(s+1)*(a+c)<=mv.length*(a+c):=aA _ hs;have e2:mv.length*(a+c)+4<=mv.length*(mv.length*(a+c)+4):=cI _ (by lia);have e3:(s+1)*(a+c)=a*(s+1)+c*(s+1):=by rw[dn,b6,b6 c]
 refine ⟨a,c,a*(s+1),c*(s+1),⟨M,V,M0,Ma,V1,fm xs hx⟩,⟨M^(s+1),2^(c*(s+1)),dO M0,?_,ak _,f⟩,by lia⟩;exact ai (jo Ma _) (by rw[<- zx];exact ak _)
end
inductive FU (K:FG9) (C:Addr) (vs:List V) (H:Hp) (Q:VK) (E9:XK):Prop
 | mk (x:Addr) (u a c:Nat) (H0:Hp) (mv pt lk:LR9):vs=[.ref x,.int u]->u<=mv.length->nX K H0 H C x mv pt lk->fM mv pt lk->uN mv pt a c->(∀r us H',H r=none->aE H H'->H' r=some (.lst us)->Paired (KQ K r H') (KH mv pt u) us->Q (.ref r) H')->FU K C vs H Q E9
inductive FQ (K:FG9) (vs:List V) (H:Hp) (Q:VK) (E9:XK):Prop
 | mk (p:Addr) (xs:List V) (Rs:List (LR9)):vs=[.ref p]->H p=some (.lst xs)->Paired (KQ K p H) Rs xs->Rs.flatten.length<=1000->(∀r H0 H',H r=none->aE H H'->bP K H0 H' r Rs.flatten->Q (.ref r) H')->FQ K vs H Q E9
inductive IZ (K:FG9) (vs:List V) (H:Hp) (Q:VK) (E9:XK):Prop
 | mk (p:Addr) (u k:Nat) (w:List Rat):vs=[.ref p,.int u,.int k]->cw K H p w->w.length=u*k->u*k<=1000->u<=1000->k<=1000->(∀r H',H r=none->aE H H'->bP K H H' r (AR w u k)->Q (.ref r) H')->IZ K vs H Q E9
inductive FJ (K:FG9) (C:Addr) (vs:List V) (H:Hp) (Q:VK) (E9:XK):Prop
 | mk (x:Addr) (T:Nat) (H0:Hp) (mv pt lk:LR9):vs=[.ref x,.int T]->T<=100->nX K H0 H C x mv pt lk->fM mv pt lk->(∀r H',H r=none->aE H H'->bP K H H' r (List.replicate T (List.replicate pt.length 0))->Q (.ref r) H')->FJ K C vs H Q E9
inductive FO (K:FG9) (C:Addr) (vs:List V) (H:Hp) (Q:VK) (E9:XK):Prop
 | mk (x s g:Addr) (T:Nat) (H0:Hp) (mv pt lk:LR9) (st go:List Rat):vs=[.ref x,.ref s,.ref g,.int T]->T<=99->nX K H0 H C x mv pt lk->fM mv pt lk->KI mv pt lk->cw K H s st->st.length=mv.length->cw K H g go->go.length=mv.length->Hv mv pt st (List.replicate T (List.replicate pt.length 0))->(∀x∈go,ug x)->(∀r H',H r=none->aE H H'->cw K H' r (gF mv T st go)->Q (.ref r) H')->FO K C vs H Q E9
structure SJ (mv pt:LR9) (L:List Rat) (D W0 E W1:Nat):Prop where
 d0:0 < D
 e0:0 < E
 w0:1<=W0
 w1:1<=W1
 tk:∀u,u<=mv.length->∀xs∈kry mv pt u,∀x∈xs,Tp D W0 x
 tl:∀x∈L,Tp E W1 x
 de:D*E<=2^4300
 sw:∃w,W0*E+W1*D+D*E<=2^w/\w<=4300/\(mv.length+1)*(w+4)<=8900
theorem SJ.join {mv pt:LR9} {L:List Rat} {D W0 E W1:Nat} (F:SJ mv pt L D W0 E W1) {rows:LR9} {due:List Rat} {n':Nat} (hd:due.length=rows.length) (h1:∀xs∈rows,∀x∈xs,Tp (D*E) (W0*E+W1*D+D*E) x) (h2:∀x∈due,Tp (D*E) (W0*E+W1*D+D*E) x) (n8:mv.length<=8) (hm:min rows.length n'<=mv.length+1):∃w,Hq (dh rows due) n' w:=by
 obtain ⟨w,b1,b2,b3⟩:=F.sw;have:=bU F.d0 F.e0;refine ⟨w,D*E,W0*E+W1*D+D*E,bU F.d0 F.e0,F.de,by lia,b1,λxs hx x hx'=>?_,b2,by rw[rL hd];lia,by rw[rL hd];exact ai (aA _ hm) b3⟩;unfold dh at hx;obtain ⟨i,hi,rfl⟩:=bX hx;rw[lC] at hx';rcases ay.mp hx' with z | z
 ·exact h1 _ (aT _) x z
 ·rw[bN.mp z];exact h2 _ (aT _)
theorem Tp.up {M W x:Nat} {q:Rat} (h:Tp M W q) (k:Nat) (hx:W*k<=x):Tp (M*k) x q:=by
 obtain ⟨z,e,b⟩:=h;exact ⟨z*k,by rw[eT,aW,<- e,aU];grind,by rw[dg,cg];exact ai (aA _ b) hx⟩
structure Sg (mv pt:LR9) (st pu:List Rat):Prop where
 f2:∀xs∈mv,Ab xs st
 part:∀kk,∀x∈nextK mv pt st pu kk,ug x
 su:∀u∈pu,ug u
 sp:∀row∈pt,∀y∈row,ug y
 mul:∀u∈pu,∀row∈pt,∀y∈row,ug (u*y)
inductive FK (K:FG9) (vs:List V) (H:Hp) (Q:VK) (E9:XK):Prop
 | mk (r s u:Addr) (H0:Hp) (mv pt lk:LR9) (st pu:List Rat):vs=[.ref r,.ref s,.ref u]->eO K H0 H r mv pt lk->fM mv pt lk->cw K H s st->cw K H u pu->st.length=mv.length->pu.length=pt.length->Sg mv pt st pu->(∀t H',H t=none->aE H H'->cw K H' t (ie mv pt st pu)->Q (.ref t) H')->FK K vs H Q E9
structure Bd (mv pt:LR9) (M1 M2 V a1 a2 c:Nat):Prop where
 m1:0 < M1
 m2:0 < M2
 b1:M1<=2^a1
 b2:M2<=2^a2
 gm:GF M1 V mv
 gp:GF M2 V pt
 vc:(mv.length+4)*V<=2^c
section
variable {mv pt lk pus:LR9} {st pu go:List Rat} {M1 M2 V a1 a2 c N Np p t T ν:Nat}
theorem Bd.v1 (B:Bd mv pt M1 M2 V a1 a2 c):V<=2^c:=ai (cI _ (by lia)) B.vc
theorem tD {M W:Nat} {x:Rat} (h0:0 < M) {a b:Nat} (h1:M<=2^a) (h2:W<=2^b) (hab:a+b<=3990) (h:Fr M W x):ug x:=by
 refine Pj (Tp.of h (ak _)) h0 (ai h1 (au (by decide) (by lia))) ?_;refine ai (aJ h2 h1) ?_;rw[<- bo];exact au (by decide) (by lia)
theorem Bd.next (B:Bd mv pt M1 M2 V a1 a2 c) (D:fM mv pt lk) (ls:st.length=mv.length) (lu:pu.length=pt.length) (N0:0 < N) (dv:M2*Np∣M1*N) (hs:∀x∈st,Fr N (2^p) x) (hu:∀x∈pu,Fr Np (2^p) x) (hN:N<=2^ν) (sz:a1+ν+c+p<=3900) (sp2:a2+c<=3900):Sg mv pt st pu/\∀x∈ie mv pt st pu,Fr (M1*N) (2^(c+p)) x:=by
 have V1:=B.v1;have i4:=D.i4;have MN0:0 < M1*N:=bU B.m1 N0;have MN:M1*N<=2^(a1+ν):=by rw[bo];exact aJ B.b1 hN
 have Np0:0 < Np:=by
  rcases fh Np with z | z
  ·rw[z,Bg] at dv;have:=So dv
   lia
  ·exact z
 have NpMN:Np<=M1*N:=ai (cI _ B.m2) (ko MN0 dv)
 have one:∀u∈pu,∀row∈pt,∀y∈row,Fr (M1*N) (V*2^p) (u*y):=λu hu' row hr y hy=>by
  have:=(B.gp row hr y hy).mul (hu u hu');rw[fw];exact this.dvd dv
 have part:∀kk,kk<=pt.length->∀x∈nextK mv pt st pu kk,Fr (M1*N) (2^(c+p)) x:=λkk hkk x hx=>by
  obtain ⟨j,hj,e⟩:=bX hx;rw[kb] at hj;have e2:=BY (mv:=mv) (pt:=pt) (st:=st) (pu:=pu) (k:=kk) hj;rw[ae,af (by rw[kb];exact hj)] at e2;have e3:x=eC (mv[j]++(pt.map λxs=>xs.getD j 0).take kk) (st++pu.take kk):=by rw[<- e,<- e2];rfl
  have wj:=D.mw _ (aT hj);rw[e3,vF (by lia)];have f1:=Fr.dot (B.gm _ (aT hj)) hs;rw[wj] at f1
  have f2:Fr (M1*N) (4*(V*2^p)) (eC ((pt.map λxs=>xs.getD j 0).take kk) (pu.take kk)):=by
   have hc:∀y∈(pt.map λxs=>xs.getD j 0).take kk,Fr M2 V y:=λy hy=>by
    obtain ⟨xs,hxs,rfl⟩:=aH.mp (cA hy);rw[ae];cases e:xs[j]? with
    | none=>exact Fr.zero
    | some z=>exact B.gp xs hxs z (aw e)
   have:=Fr.dot (ys:=pu.take kk) hc (λy hy=>hu y (cA hy));refine (this.dvd dv).mono (aA _ ?_);rw[cT,ao]
   lia
  refine (f1.add f2).mono ?_;rw[<- MT,bo,<- cy];exact aA _ B.vc
 have szb:∀{x:Rat},Fr (M1*N) (2^(c+p)) x->ug x:=λh=>tD MN0 MN (ak _) (by lia) h
 have all:∀kk,∀x∈nextK mv pt st pu kk,Fr (M1*N) (2^(c+p)) x:=λkk x hx=>by
  rcases cN pt.length kk with z | z
  ·have e:nextK mv pt st pu kk=nextK mv pt st pu pt.length:=(wo (by lia) (by lia)).trans (wo (ak _) (by lia)).symm;rw[e] at hx;exact part _ (ak _) x hx
  ·exact part kk z x hx
 refine ⟨⟨λxs hx=>⟨a1,c,ν,p,⟨M1,V,B.m1,B.b1,V1,B.gm xs hx⟩,⟨N,2^p,N0,hN,ak _,hs⟩,by lia⟩,λkk x hx=>szb (all kk x hx),λu hu'=>?_,λrow hr y hy=>?_,λu hu' row hr y hy=>szb ((one u hu' row hr y hy).mono (by rw[bo];exact aA _ V1))⟩,λx hx=>?_⟩
 ·exact tD Np0 (ai NpMN MN) (ak _) (by lia) (hu u hu')
 ·exact tD B.m2 B.b2 V1 (by lia) (B.gp row hr y hy)
 ·rw[<- wo (k:=pt.length) (ak _) (by lia)] at hx;exact all _ x hx
end
section
variable {mv pt lk pus:LR9} {st pu go:List Rat} {M1 M2 V a1 a2 c N Np p t T ν k:Nat}
def KL (mv pt pus:LR9) (st:List Rat):Prop:=∃M1 M2 V a1 a2 c N Np p ν,Bd mv pt M1 M2 V a1 a2 c/\0 < N/\N<=2^ν/\M2*Np∣N/\(∀x∈st,Fr N (2^p) x)/\(∀xs∈pus,∀x∈xs,Fr Np (2^p) x)/\a1*(pus.length+1)+ν+c*(pus.length+1)+p<=3900/\a2+c<=3900
theorem iG {M a t N ν:Nat} (h:M<=2^a) (hN:N<=2^ν):M^t*N<=2^(a*t+ν):=by
 rw[bo,zx];exact aJ (jo h t) hN
theorem Bd.states (B:Bd mv pt M1 M2 V a1 a2 c) (D:fM mv pt lk) (ls:st.length=mv.length) (wp:∀xs∈pus,xs.length=pt.length) (N0:0 < N) (hN:N<=2^ν) (dv:M2*Np∣N) (hs:∀x∈st,Fr N (2^p) x) (hu:∀xs∈pus,∀x∈xs,Fr Np (2^p) x) (sz:a1*(pus.length+1)+ν+c*(pus.length+1)+p<=3900) (sp2:a2+c<=3900):∀k,k<=pus.length->(∀x∈sP mv pt st pus k,Fr (M1^k*N) (2^(c*k+p)) x)/\∀pu,pus[k]?=some pu->Sg mv pt (sP mv pt st pus k) pu:=by
 have key:∀k,k<=pus.length->(∀x∈sP mv pt st pus k,Fr (M1^k*N) (2^(c*k+p)) x)->∀pu,pus[k]?=some pu->Sg mv pt (sP mv pt st pus k) pu/\∀x∈ie mv pt (sP mv pt st pus k) pu,Fr (M1*(M1^k*N)) (2^(c+(c*k+p))) x:=λk hk f pu hpu=>by
  have mp:=aw hpu;have kl:=(aB.mp hpu).1;have e1:a1*(k+1)<=a1*(pus.length+1):=aF _ (by lia);have e2:c*(k+1)<=c*(pus.length+1):=aF _ (by lia);rw[dn,MS] at e1 e2;refine B.next D (sO ls hk) (wp pu mp) (bU (dO B.m1) N0) ?_ f (λx hx=>(hu pu mp x hx).mono (au (by decide) (Nat.le_add_left _ _))) (iG B.b1 hN) (by lia) sp2;exact gD dv (gD (df _ _) (df _ _))
 have fr:∀k,k<=pus.length->∀x∈sP mv pt st pus k,Fr (M1^k*N) (2^(c*k+p)) x:=by
  intro k
  induction k with
  | zero =>
   intro _ x hx;rw[Nat.pow_zero,uK,Bg,Nat.zero_add];exact hs x hx
  | succ k ih =>
   intro hk x hx;have e:=af (show k < pus.length by lia);rw[uW e] at hx;have:=(key k (by lia) (ih (by lia)) _ e).2 x hx;rw[<- cy,b6 M1,<- eK,show c+(c*k+p)=c*(k+1)+p by rw[dn];lia] at this;exact this
 exact λk hk=>⟨fr k hk,λpu hpu=>(key k hk (fr k hk) pu hpu).1⟩
theorem KL.nx (h:KL mv pt pus st) (D:fM mv pt lk) (ls:st.length=mv.length) (wp:∀xs∈pus,xs.length=pt.length) (hk:k<=pus.length) (hpu:pus[k]?=some pu):Sg mv pt (sP mv pt st pus k) pu:=by
 obtain ⟨M1,M2,V,a1,a2,c,N,Np,p,ν,B,N0,hN,dv,hs,hu,sz,sp2⟩:=h;exact (B.states D ls wp N0 hN dv hs hu sz sp2 k hk).2 pu hpu
theorem KL.szn (h:KL mv pt pus st) (D:fM mv pt lk) (ls:st.length=mv.length) (wp:∀xs∈pus,xs.length=pt.length) (hk:k<=pus.length):∀x∈sP mv pt st pus k,ug x:=λx hx=>by
 obtain ⟨M1,M2,V,a1,a2,c,N,Np,p,ν,B,N0,hN,dv,hs,hu,sz,sp2⟩:=h;have e1:a1*k<=a1*(pus.length+1):=aF _ (by lia);have e2:c*k<=c*(pus.length+1):=aF _ (by lia);exact tD (bU (dO B.m1) N0) (iG B.b1 hN) (ak _) (by lia) ((B.states D ls wp N0 hN dv hs hu sz sp2 k hk).1 x hx)
def Sl (mv:LR9) (st:List Rat) (T:Nat):Prop:=∃M1 V a1 c N p ν,0 < M1/\M1<=2^a1/\GF M1 V mv/\(mv.length+4)*V<=2^c/\0 < N/\N<=2^ν/\(∀x∈st,Fr N (2^p) x)/\a1*(T+1)+ν+c*(T+1)+p<=3900
theorem LF (gm:GF M1 V mv) (wm:∀xs∈mv,xs.length=mv.length) (vc:(mv.length+4)*V<=2^c) (ls:st.length=mv.length) (hs:∀x∈st,Fr N (2^p) x):∀t,∀x∈jK mv t st,Fr (M1^t*N) (2^(c*t+p)) x:=by
 intro t
 induction t with
 | zero =>
  intro x hx;rw[Nat.pow_zero,uK,Bg,Nat.zero_add];exact hs x hx
 | succ t ih =>
  intro x hx;obtain ⟨row,hr,rfl⟩:=aH.mp (show x∈mv.map λxs=>eC xs (jK mv t st) from hx);have f:=Fr.dot (gm row hr) ih;rw[<- cy,b6 M1,<- eK] at f;refine f.mono ?_;rw[wm row hr,<- cy,show c*(t+1)+p=c+(c*t+p) by rw[dn];lia,bo 2 c];exact aA _ (ai (aA V (show mv.length<=mv.length+4 by lia)) vc)
theorem Sl.fit (h:Sl mv st T) (wm:∀xs∈mv,xs.length=mv.length) (ls:st.length=mv.length) (ht:t<=T):(∀xs∈mv,Ab xs (jK mv t st))/\∀x∈jK mv t st,ug x:=by
 obtain ⟨M1,V,a1,c,N,p,ν,m0,m1,gm,vc,N0,hN,hs,sz⟩:=h;have f:=LF gm wm vc ls hs t;have V1:V<=2^c:=ai (cI _ (by lia)) vc;have e1:a1*t<=a1*T:=aF _ ht;have e2:c*t<=c*T:=aF _ ht;rw[dn,dn,MS,MS] at sz;exact ⟨λxs hx=>⟨a1,c,a1*t+ν,c*t+p,⟨M1,V,m0,m1,V1,gm xs hx⟩,⟨M1^t*N,2^(c*t+p),bU (dO m0) N0,iG m1 hN,ak _,f⟩,by lia⟩,λx hx=>tD (bU (dO m0) N0) (iG m1 hN) (ak _) (by lia) (f x hx)⟩
def SK (mv pt:LR9) (T:Nat):Prop:=∃M1 M2 V a1 a2 c,Bd mv pt M1 M2 V a1 a2 c/\a1*(T+1)+a2+c*(T+2)<=3900
theorem SK.row (h:SK mv pt T) (wm:∀xs∈mv,xs.length=mv.length) (wp:∀xs∈pt,xs.length=mv.length):∀xs∈pt,Sl mv xs T:=λxs hx=>by
 obtain ⟨M1,M2,V,a1,a2,c,B,sz⟩:=h;refine ⟨M1,V,a1,c,M2,c,a2,B.m1,B.b1,B.gm,B.vc,B.m2,B.b2,λx hx'=>(B.gp xs hx x hx').mono B.v1,?_⟩;rw[dn c T 2] at sz;rw[dn c T 1]
 lia
end
inductive IY (K:FG9) (vs:List V) (H:Hp) (Q:VK) (E9:XK):Prop
 | mk (r s p:Addr) (H0 H1:Hp) (mv pt lk pus:LR9) (st:List Rat):vs=[.ref r,.ref s,.ref p]->eO K H0 H r mv pt lk->fM mv pt lk->cw K H s st->st.length=mv.length->bP K H1 H p pus->pus.length<=100->(∀xs∈pus,xs.length=pt.length)->KL mv pt pus st->(∀t H',H t=none->aE H H'->cw K H' t (sP mv pt st pus pus.length)->Q (.ref t) H')->IY K vs H Q E9
inductive Dz (K:FG9) (vs:List V) (H:Hp) (Q:VK) (E9:XK):Prop
 | mk (r s:Addr) (T:Nat) (H0:Hp) (mv pt lk:LR9) (st:List Rat):vs=[.ref r,.ref s,.int T]->T<=100->eO K H0 H r mv pt lk->fM mv pt lk->cw K H s st->st.length=mv.length->Sl mv st T->(∀t H',H t=none->aE H H'->cw K H' t (jK mv T st)->Q (.ref t) H')->Dz K vs H Q E9
inductive DA (K:FG9) (vs:List V) (H:Hp) (Q:VK) (E9:XK):Prop
 | mk (r:Addr) (T:Nat) (H0:Hp) (mv pt lk:LR9):vs=[.ref r,.int T]->T<=20->eO K H0 H r mv pt lk->fM mv pt lk->SK mv pt T->(∀q H',H q=none->aE H H'->bP K H H' q (kry mv pt T)->Q (.ref q) H')->DA K vs H Q E9
section
variable {X:Cx}
theorem KD (hc:X.calm=true):rz X (.builtin "max") (λxs H Q=>∃(p:Addr) (ns:List Int),xs=[.ref p]/\bS X.K H p (ns.map V.int)/\0 < ns.length/\∀M,M∈ns->(∀a,a∈ns->a<=M)->Q (.int M) H):=by
 intro pins s σ H xs us Q I r h;obtain ⟨p,ns,rfl,hp,hne,q⟩:=h;obtain ⟨u,rfl,ru⟩:=vals1 r;cases ru;obtain ⟨its,r2,pl,_⟩:=I.list hp;have hi:=intsAre_of r2;have hl:=pl.isList;obtain ⟨xs,e⟩:=hi.allInts.items
 have hns:ns=xs.toList.map (·.1):=by
  rw[<- hi.numsOf,<- nums_intItems,<- e]
 have hsz:0 < xs.size:=by
  have h3:=hne;rw[hns,ao,Array.length_toList] at h3;exact h3
 rw[e] at hl;refine max_intList (I.ok.hd hc) hl hsz λv h' tk hv hk=>?_
 obtain ⟨t,rfl⟩:=intItems_at hv;obtain ⟨h1,h2⟩:=argBest_gt (numAt xs) (xs.size - 1);refine ⟨.int _,H,I.kept hk,⟨_,rfl⟩,q _ ?_ λa ha=>?_⟩
 ·rw[hns,numAt_eq];exact getD_in (by rw[ao,Array.length_toList];lia)
 ·rw[hns] at ha;obtain ⟨j,hj,rfl⟩:=mem_getD ha;rw[ao,Array.length_toList] at hj;rw[<- numAt_eq];exact h2 j (by lia)
end
theorem DE {α β:Type} {f:α->β}:∀{l1:List α} {l2:List β},Paired (λa b=>b=f a) l1 l2->l2=l1.map f
 | _,_,.nil=>rfl
 | _,_,.cons h r=>by rw[h,DE r];rfl
def StP (mv pt:LR9) (T:Nat):Prop:=T<=12/\(T<=3\/((∀xs∈mv++pt,∀x∈xs,x.den<=9/\x.num.natAbs < 1000)/\(5 < mv.length->T<=mv.length)/\(3<=mv.length->mv.length<=5->T<=mv.length+1)))
def QU (x:Rat):Int:=(x.den:Int)+(x.num.natAbs:Int) / 1000*9
theorem Ov {x:Rat} (h:QU x<=9):x.den<=9/\x.num.natAbs < 1000:=by
 unfold QU at h;have:=x.den_pos
 lia
inductive Dm (K:FG9) (vs:List V) (H:Hp) (Q:VK) (E9:XK):Prop
 | mk (b r:Addr) (H0:Hp) (mv pt lk:LR9):vs=[.ref b,.ref r]->iC H b->H0 b≠none->eO K H0 H r mv pt lk->fM mv pt lk->(∀xs∈mv++pt,∀x∈xs,ug x)->(∀(T:Nat) H',StP mv pt T->iC H' b->cV b H H'->Q (.int T) H')->Dm K vs H Q E9
inductive FH (K:FG9) (vs:List V) (H:Hp) (Q:VK) (E9:XK):Prop
 | mk (b r:Addr) (T w:Nat) (H0:Hp) (mv pt lk:LR9):vs=[.ref b,.ref r,.int T,.int w]->T<=100->1<=w->w<=1000->iC H b->H0 b≠none->eO K H0 H r mv pt lk->fM mv pt lk->(∀p pus H',H p=none->bP K H H' p pus->pus.length=T->(∀xs∈pus,xs.length=pt.length/\∀x∈xs,Dr (max w 6) x)->iC H' b->cV b H H'->Q (.ref p) H')->FH K vs H Q E9
section
variable {mv pt lk pus:LR9} {st pr go:List Rat} {T k:Nat}
theorem KL.sznP (h:KL mv pt pus st):∀xs∈pus,∀x∈xs,ug x:=λxs hx x hx'=>by
 obtain ⟨M1,M2,V,a1,a2,c,N,Np,p,ν,B,N0,hN,dv,hs,hu,sz,sp2⟩:=h
 have Np0:0 < Np:=by
  rcases fh Np with z | z
  ·rw[z,Bg] at dv;have:=So dv
   lia
  ·exact z
 have le:Np<=N:=ai (cI _ B.m2) (ko N0 dv);exact tD Np0 (ai le hN) (ak _) (by lia) (hu xs hx x hx')
end
inductive Dv (K:FG9) (vs:List V) (H:Hp) (Q:VK) (E9:XK):Prop
 | mk (r s g p:Addr) (T:Nat) (H0 H1:Hp) (mv pt lk pus:LR9) (st go:List Rat):vs=[.ref r,.ref s,.ref g,.int T,.ref p]->T<=100->eO K H0 H r mv pt lk->fM mv pt lk->cw K H s st->st.length=mv.length->cw K H g go->bP K H1 H p pus->pus.length=T->(∀xs∈pus,xs.length=pt.length)->KL mv pt pus st->sP mv pt st pus T=go->(∀H',aE H H'->Q (.bl true) H')->Dv K vs H Q E9
structure Tb (mv pt:LR9) (T:Nat) (st go pr:List Rat):Prop where
 ad:SK mv pt T
 al:Sl mv st T
 sg:∀x∈go,ug x
 sr:∀x∈pr,ug x
 f1:∀xs∈kry mv pt T,Ab pr xs
 f2:Ab pr (gF mv T st go)
inductive Bt (K:FG9) (vs:List V) (H:Hp) (Q:VK) (E9:XK):Prop
 | mk (r s g p:Addr) (T:Nat) (H0:Hp) (mv pt lk:LR9) (st go pr:List Rat):vs=[.ref r,.ref s,.ref g,.int T,.ref p]->T<=20->eO K H0 H r mv pt lk->fM mv pt lk->cw K H s st->st.length=mv.length->cw K H g go->go.length=mv.length->cw K H p pr->pr.length=mv.length->Tb mv pt T st go pr->(∀xs∈kry mv pt T,eC xs pr=0)->eC pr (gF mv T st go)=1->(∀H',aE H H'->Q (.bl true) H')->Bt K vs H Q E9
structure CtF (mv pt:LR9) (T:Nat) (st go:List Rat) (D W0 E W1:Nat):Prop where
 cf:Hv mv pt st (List.replicate T (List.replicate pt.length 0))
 sg:∀x∈go,ug x
 co:SJ mv pt (gF mv T st go) D W0 E W1
 en:∀(pus:LR9) (q:Nat),0 < q->q<=(16*W0)^mv.length->pus.length=T->(∀xs∈pus,∀x∈xs,Tp (E*q) (D*(mv.length*(W1*(16*W0)^mv.length))) x)->KL mv pt pus st
def Nf (v:Nat):Rat:=⟨1,v+1,Nat.succ_ne_zero v,by simp⟩
theorem OG {v:Nat} (h:v < 3):Fr 6 1 (Nf v):=by
 have e:(Nf v).num.natAbs<=1:=ak _;have f:=Fr.own (Nf v) e
 have d:(Nf v).den∣6:=by
  show v+1∣6
  rcases (show v=0\/v=1\/v=2 by lia) with rfl | rfl | rfl <;> decide
 exact f.dvd d
def SI (pt:LR9) (T w:Nat) (pus:LR9):Prop:=pus.length=T/\∀xs∈pus,xs.length=pt.length/\∀x∈xs,Dr (max w 6) x
def GoP (mv pt:LR9) (T w:Nat) (st go:List Rat):Prop:=(∀x∈go,Dr (max w 6) x)\/∃pus,SI pt T w pus/\(go=sP mv pt st pus T\/∃a v,v < 3/\go=(sP mv pt st pus T).set a ((sP mv pt st pus T).getD a 0+Nf v))
inductive FP (K:FG9) (vs:List V) (H:Hp) (Q:VK) (E9:XK):Prop
 | mk (b r s:Addr) (T w:Nat) (H0:Hp) (mv pt lk:LR9) (st:List Rat):vs=[.ref b,.ref r,.ref s,.int T,.int w]->T<=100->1<=w->w<=1000->iC H b->H0 b≠none->eO K H0 H r mv pt lk->fM mv pt lk->cw K H s st->s≠b->st.length=mv.length->(∀pus,SI pt T w pus->KL mv pt pus st)->(∀g go H',H g=none->cw K H' g go->go.length=mv.length->GoP mv pt T w st go->iC H' b->cV b H H'->Q (.ref g) H')->FP K vs H Q E9
theorem LR (ws vs:List V) (M1 M2 M3:Nat):∃μ:V->Nat,(∀x∈ws,μ x=M2)/\(∀x∈vs,x∉ws->μ x=M3)/\(∀x,x∉ws->x∉vs->μ x=M1)/\∀x,μ x=M1\/μ x=M2\/μ x=M3:=by
 classical
 refine ⟨λx=>if x∈ws then M2 else if x∈vs then M3 else M1,λx h=>if_pos h,λx h h'=>?_,λx h h'=>?_,λx=>?_⟩
 ·show (if x∈ws then M2 else if x∈vs then M3 else M1)=M3
  rw[if_neg h',if_pos h]
 ·show (if x∈ws then M2 else if x∈vs then M3 else M1)=M1
  rw[if_neg h,if_neg h']
 ·show (if x∈ws then M2 else if x∈vs then M3 else M1)=M1\/(if x∈ws then M2 else if x∈vs then M3 else M1)=M2\/(if x∈ws then M2 else if x∈vs then M3 else M1)=M3
  by_cases h:x∈ws
  ·rw[if_pos h];exact .inr (.inl rfl)
  ·rw[if_neg h];by_cases h':x∈vs
   ·rw[if_pos h'];exact .inr (.inr rfl)
   ·rw[if_neg h'];exact .inl rfl
theorem kW.apart {K:FG9} {A:Addr->Prop} {H:Hp} {n:Nat} {C:V->Rat->Prop} {m p l b q0:Addr} {us ws vs:List V} (h:kW K A H n C m p l b q0 us ws vs):(∀x∈us,x∉ws/\x∉vs)/\∀x∈vs,x∉ws:=by
 obtain ⟨n1,n2,n3⟩:=dP.mp h.nd;obtain ⟨n4,n5,n6⟩:=dP.mp n1;exact ⟨λx hx=>⟨λz=>n3 x (ay.mpr (.inl hx)) x z rfl,λz=>n6 x hx x z rfl⟩,λx hx z=>n3 x (ay.mpr (.inr hx)) x z rfl⟩
theorem kW.fr3 {K:FG9} {A:Addr->Prop} {H:Hp} {n c:Nat} {m p l b q0:Addr} {us ws vs:List V} (h:kW K A H n (λ_=>Dr (2^c)) m p l b q0 us ws vs):∃M1 M2 M3,0 < M1/\0 < M2/\0 < M3/\M1<=2^(c*(n*n))/\M2<=2^(c*(ws.length*n))/\M3<=2^(c*(vs.length*n))/\(∀x∈us,fO K A H n (Fr M1 (2^c)) x)/\(∀x∈ws,fO K A H n (Fr M2 (2^c)) x)/\∀x∈vs,fO K A H n (Fr M3 (2^c)) x:=by
 have one:∀l:List V,(∀x∈l,x∈us++vs++ws)->∃M,0 < M/\M<=2^(c*(l.length*n))/\∀x∈l,fO K A H n (Fr M (2^c)) x:=λl hl=>by
  obtain ⟨ra,pa,la,ha⟩:=BH λx hx=>h.row x (hl x hx)
  obtain ⟨M,m0,m1,m2⟩:=Nx (c:=c) (n:=n) (rows:=ra) ha;exact ⟨M,m0,by rw[la] at m1;exact m1,HN pa λqs hq=>⟨(ha qs hq).1,m2 qs hq⟩⟩
 obtain ⟨M1,a1,a2,a3⟩:=one us λx hx=>by simp [hx]
 obtain ⟨M2,b1,b2,b3⟩:=one ws λx hx=>by simp [hx]
 obtain ⟨M3,c1,c2,c3⟩:=one vs λx hx=>by simp [hx]
 rw[h.lm] at a2;exact ⟨M1,M2,M3,a1,b1,c1,a2,b2,c2,a3,b3,c3⟩
inductive Du (K:FG9) (xs:List V) (H:Hp) (Q:VK) (E9:XK):Prop
 | mk (b m p l q0:Addr) (n V1:Nat) (μ:V->Nat) (A:Addr->Prop) (us ws vs:List V):xs=[.ref b,.ref m,.ref p,.ref l]->Ht A m p l b q0->kW K A H n (λx=>Fr (μ x) V1) m p l b q0 us ws vs->n<=8->ws.length<=4->vs.length<=4->(∀x,0 < μ x)->(∀x,μ x<=2^800)->(∃M,∀x,x∉ws->x∉vs->μ x=M)->V1<=2^20->(∀q,H q=none->A q)->(∀r us' H',H' r=some (.tup [.ref m,.ref p,.ref l])->kW K A H' n (λx=>Fr (μ x) (9^3*V1)) m p l b q0 us' ws vs->jr A b m H H'->Q (.ref r) H')->Du K xs H Q E9
def Ta (n i o w c:Nat) (mv pt lk:LR9):Prop:=∃M1 M2 M3 V1:Nat,0 < M1/\0 < M2/\0 < M3/\GF M1 V1 mv/\GF M2 V1 pt/\GF M3 V1 lk/\((w<=9/\M1=2520/\M2=2520/\M3=2520/\V1=9^3*9)\/(9 < w/\M1<=2^(c*(n*n))/\M2<=2^(c*(i*n))/\M3<=2^(c*(o*n))/\V1=9^3*2^c))
inductive Dq (K:FG9) (vs:List V) (H:Hp) (Q:VK) (E9:XK):Prop
 | mk (b:Addr) (n i o w c:Nat):vs=[.ref b,.int n,.int i,.int o,.int w]->iC H b->n<=8->i<=4->o<=4->1<=w->w<=1000000->max w 6<=2^c->c<=20->c*((n+i+o)*n)<=800->(∀r mv pt lk H',eO K H H' r mv pt lk->mv.length=n->pt.length=i->lk.length=o->fM mv pt lk->Ta n i o w c mv pt lk->iC H' b->cV b H H'->Q (.ref r) H')->Dq K vs H Q E9
def Rg (mv pt:LR9) (w:Nat):Prop:=(w<=9/\Bd mv pt 1 1 (9^3) 0 0 14)\/(w<=9/\mv.length<=5/\Bd mv pt 2520 2520 (9^3*9) 12 12 16)\/(w=1000/\mv.length<=2/\∃M1 M2,Bd mv pt M1 M2 (9^3*2^20) 80 160 33)
def Nk (K:FG9):Sp:=λvs H Q _=>∃b:Addr,vs=[.ref b]/\iC H b /\
 ∀t r (w a c:Nat) mv pt lk H',H' t=some (.tup [.ref r,.int w])->eO K H H' r mv pt lk->fM mv pt lk->KI mv pt lk->uN mv pt a c->Rg mv pt w->1<=w->w<=1000->iC H' b->cV b H H'->Q (.ref t) H'
theorem Iq {M V:Nat} {l:LR9} (h:GF M V l) (k:Nat):GF (k*M) V l:=λxs hx x hx'=>(h xs hx x hx').scaleL k
theorem Ta.n {n i o w c:Nat} {mv pt lk:LR9} (h:Ta n i o w c mv pt lk):PtF n i o w c mv pt lk:=by
 obtain ⟨M1,M2,M3,V1,a1,a2,a3,f1,f2,f3,hc⟩:=h;rcases hc with ⟨w9,rfl,rfl,rfl,e⟩ | ⟨w9,e1,e2,e3,e⟩
 ·exact ⟨2520,V1,by decide,f1,f2,f3,.inl ⟨w9,rfl,e⟩⟩
 ·refine ⟨M1*M2*M3,V1,bU (bU a1 a2) a3,?_,?_,?_,.inr ⟨w9,?_,e⟩⟩
  ·have:=Iq f1 (M2*M3);rwa [show M2*M3*M1=M1*M2*M3 by rw[b6 (M2*M3),cy]] at this
  ·have:=Iq f2 (M1*M3);rwa [show M1*M3*M2=M1*M2*M3 by rw[cy,b6 M3,cy]] at this
  ·exact Iq f3 (M1*M2)
  ·refine ai (aJ (aJ e1 e2) e3) ?_;rw[<- bo,<- bo,show c*((n+i+o)*n)=c*(n*n)+c*(i*n)+c*(o*n) by rw[MT,MT,dn,dn]];exact ak _
def zd (n a1 a2:Nat):Nat:=a1*(n - 1)+a2
def zw (n a1 a2 c:Nat):Nat:=zd n a1 a2+c*n
def zq (n a1 a2 c:Nat):Nat:=n*(4+zw n a1 a2 c)
def ze (a1 a2 T b:Nat):Nat:=a1*T+a2+b
def zu (a1 a2 c T b g:Nat):Nat:=ze a1 a2 T b+(c*T+g+1)
abbrev ZS (n a1 a2 c T b g:Nat):Prop:=ze a1 a2 T b<=1500/\c*T+g<=1800/\zw n a1 a2 c+ze a1 a2 T b+zu a1 a2 c T b g+zd n a1 a2+2<=4300/\(n+1)*(zw n a1 a2 c+ze a1 a2 T b+zu a1 a2 c T b g+zd n a1 a2+6)<=8900/\a1*(T+1)+(a2+ze a1 a2 T b+zq n a1 a2 c)+c*(T+1)+(zd n a1 a2+3+zu a1 a2 c T b g+zq n a1 a2 c)<=3900/\a2+c<=3900/\a1*(T+1)+a2+c*(T+2)<=3900
abbrev ZP (n a1 a2 c T b g:Nat):Prop:=2*(zq n a1 a2 c+5+zu a1 a2 c T b g)+zu a1 a2 c T b g<=3930/\2*(zq n a1 a2 c+5+zu a1 a2 c T b g)+(a1*T+a2+c*(T+1))<=3930
theorem K2 {n n' a1 a2 c T T' b b' g:Nat} (hn:n<=n') (hT:T<=T') (hb:b<=b'):zd n a1 a2<=zd n' a1 a2/\zw n a1 a2 c<=zw n' a1 a2 c/\zq n a1 a2 c<=zq n' a1 a2 c/\ze a1 a2 T b<=ze a1 a2 T' b'/\zu a1 a2 c T b g<=zu a1 a2 c T' b' g/\a1*T<=a1*T'/\c*T<=c*T'/\a1*(T+1)<=a1*(T'+1)/\c*(T+1)<=c*(T'+1)/\c*(T+2)<=c*(T'+2):=by
 have e1:a1*(n - 1)<=a1*(n' - 1):=aF _ (by lia);have e2:c*n<=c*n':=aF _ hn;have e3:a1*T<=a1*T':=aF _ hT;have e4:c*T<=c*T':=aF _ hT;have w:zw n a1 a2 c<=zw n' a1 a2 c:=by unfold zw zd;lia
 have q:zq n a1 a2 c<=zq n' a1 a2 c:=aJ hn (by lia);refine ⟨by unfold zd;lia,w,q,by unfold ze;lia,by unfold zu ze;lia,e3,e4,aF _ (by lia),aF _ (by lia),aF _ (by lia)⟩
theorem mh {n n' a1 a2 c T T' b b' g:Nat} (hn:n<=n') (hT:T<=T') (hb:b<=b') (h:ZS n' a1 a2 c T' b' g):ZS n a1 a2 c T b g:=by
 obtain ⟨h1,h2,h3,h4,h5,h6,h7⟩:=h;obtain ⟨m1,m2,m3,m4,m5,m6,m7,m8,m9,m10⟩:=K2 (a1:=a1) (a2:=a2) (c:=c) (g:=g) hn hT hb;refine ⟨by lia,by lia,by lia,ai (aJ (by lia) (by lia)) h4,by lia,h6,by lia⟩
theorem AU {n n' a1 a2 c T T' b b' g:Nat} (hn:n<=n') (hT:T<=T') (hb:b<=b') (h:ZP n' a1 a2 c T' b' g):ZP n a1 a2 c T b g:=by
 obtain ⟨h1,h2⟩:=h;obtain ⟨m1,m2,m3,m4,m5,m6,m7,m8,m9,m10⟩:=K2 (a1:=a1) (a2:=a2) (c:=c) (g:=g) hn hT hb;exact ⟨by lia,by lia⟩
section
variable {mv pt lk pus:LR9} {st pu go pr:List Rat} {M1 M2 V a1 a2 c B b g p t T w:Nat}
theorem Bd.kry (X:Bd mv pt M1 M2 V a1 a2 c) (D:fM mv pt lk):∀t,∀xs∈kry mv pt t,∀x∈xs,Fr (M1^(t - 1)*M2) (2^(c*t)) x:=by
 intro t
 induction t with
 | zero=>intro xs hx;exact nomatch hx
 | succ t ih =>
  intro xs hx x hx';rcases ay.mp (show xs∈pt++(L2.kry mv pt t).map (uO mv) from hx) with hx | hx
  ·refine Fr.up (X.gp xs hx x hx') (df _ _) (ai X.v1 (au (by decide) ?_));exact dA _ (by lia)
  ·obtain ⟨ys,hy,rfl⟩:=aH.mp hx;obtain ⟨row,hr,rfl⟩:=aH.mp (show x∈mv.map λzs=>eC zs ys from hx');rcases t with _ | t
   ·exact nomatch hy
   have f:=Fr.dot (X.gm row hr) (ih ys hy);rw[show M1*(M1^(t+1 - 1)*M2)=M1^(t+1+1 - 1)*M2 by rw[<- cy,show t+1 - 1=t by lia,show t+1+1 - 1=t+1 by lia,eK,b6 M1]] at f;refine f.mono ?_;rw[D.mw row hr,<- cy,show c*(t+1+1)=c+c*(t+1) by rw[dn c (t+1)];lia,bo 2 c];exact aA _ (ai (aA V (show mv.length<=mv.length+4 by lia)) X.vc)
theorem Bd.lack (X:Bd mv pt M1 M2 V a1 a2 c) (D:fM mv pt lk) (ls:st.length=mv.length) (hs:∀x∈st,Fr B (2^g) x) (hg:∀x∈go,Fr (M1^T*(M2*B)) (2^(c*T+g)) x):∀x∈gF mv T st go,Fr (M1^T*(M2*B)) (2^(c*T+g+1)) x:=λx hx=>by
 unfold gF at hx;obtain ⟨j,hj,e⟩:=bX hx;rw[lC] at e;rw[<- e,show 2^(c*T+g+1)=2^(c*T+g)+2^(c*T+g) by rw[eK];lia];exact (hg _ (aT _)).sub ((LF X.gm D.mw X.vc ls hs T _ (aT _)).dvd (Nat.mul_dvd_mul_left _ (df _ _)))
theorem Bd.end (X:Bd mv pt M1 M2 V a1 a2 c) (D:fM mv pt lk) (ls:st.length=mv.length) (lp:pus.length=T) (wp:∀xs∈pus,xs.length=pt.length) (b0:0 < B) (b1:B<=2^b) (hs:∀x∈st,Fr B (2^g) x) (hu:∀xs∈pus,∀x∈xs,Fr B (2^g) x) (Z:ZS mv.length a1 a2 c T b g):KL mv pt pus st/\∀k,k<=T->∀x∈sP mv pt st pus k,Fr (M1^k*(M2*B)) (2^(c*k+g)) x:=by
 obtain ⟨h1,h2,h3,h4,h5,h6,h7⟩:=Z;have n0:0 < M2*B:=bU X.m2 b0;have hN:M2*B<=2^(a2+b):=by rw[bo];exact aJ X.b2 b1
 have hs':∀x∈st,Fr (M2*B) (2^g) x:=λx hx=>(hs x hx).scaleL _
 have sz:a1*(pus.length+1)+(a2+b)+c*(pus.length+1)+g<=3900:=by
  rw[lp];unfold zu ze at h5
  lia
 exact ⟨⟨M1,M2,V,a1,a2,c,M2*B,B,g,a2+b,X,n0,hN,Bh _,hs',hu,sz,h6⟩,λk hk=>(X.states D ls wp n0 hN (Bh _) hs' hu sz h6 k (by lia)).1⟩
theorem Gg {T i:Nat} {xs:List Rat} {x:Rat} (h:xs∈List.replicate T (List.replicate i (0:Rat))) (hx:x∈xs):x=0:=by
 rw[iE h] at hx;exact iE hx
theorem Bd.ctf (X:Bd mv pt M1 M2 V a1 a2 c) (D:fM mv pt lk) (ls:st.length=mv.length) (b0:0 < B) (b1:B<=2^b) (hs:∀x∈st,Fr B (2^g) x) (hg:∀x∈go,Fr (M1^T*(M2*B)) (2^(c*T+g)) x) (Z:ZS mv.length a1 a2 c T b g):CtF mv pt T st go (M1^(mv.length - 1)*M2) (2^(c*mv.length)*(M1^(mv.length - 1)*M2)) (M1^T*(M2*B)) (2^(c*T+g+1)*(M1^T*(M2*B))):=by
 have Z':=Z;obtain ⟨h1,h2,h3,h4,h5,h6,h7⟩:=Z;have n0:0 < M2*B:=bU X.m2 b0;have hN:M2*B<=2^(a2+b):=by rw[bo];exact aJ X.b2 b1
 obtain ⟨Dd,eD⟩:∃d,M1^(mv.length - 1)*M2=d:=⟨_,rfl⟩;obtain ⟨E,eE⟩:∃d,M1^T*(M2*B)=d:=⟨_,rfl⟩;have D0:0 < Dd:=by rw[<- eD];exact bU (dO X.m1) X.m2
 have E0:0 < E:=by rw[<- eE];exact bU (dO X.m1) n0
 have dD:Dd<=2^zd mv.length a1 a2:=by rw[<- eD];exact iG X.b1 X.b2
 have dE:E<=2^ze a1 a2 T b:=by
  rw[<- eE,show ze a1 a2 T b=a1*T+(a2+b) by unfold ze;lia];exact iG X.b1 hN
 have dW:2^(c*mv.length)*Dd<=2^zw mv.length a1 a2 c:=by
  rw[show zw mv.length a1 a2 c=c*mv.length+zd mv.length a1 a2 by unfold zw;lia,bo];exact aF _ dD
 have dU:2^(c*T+g+1)*E<=2^zu a1 a2 c T b g:=by
  rw[show zu a1 a2 c T b g=c*T+g+1+ze a1 a2 T b by unfold zu;lia,bo 2 (c*T+g+1)];exact aF _ dE
 have hl:=X.lack D ls hs hg;have hg':=hg;rw[eD,eE];rw[eE] at hl hg'
 have q2:(16*(2^(c*mv.length)*Dd))^mv.length<=2^zq mv.length a1 a2 c:=by
  have:16*(2^(c*mv.length)*Dd)<=2^(4+zw mv.length a1 a2 c):=by rw[bo];exact aF _ dW
  refine ai (jo this _) ?_;rw[<- zx,b6];exact ak _
 refine ⟨λk hk=>?_,λx hx=>tD E0 dE (ak _) (by lia) (hg' x hx),⟨D0,E0,bU (dO (by decide)) D0,bU (dO (by decide)) E0,λu hu xs hx x hx'=>?_,λx hx=>Tp.of (hl x hx) (ak _),?_,?_⟩,λqs q q0 hq lq hp=>?_⟩
 ·have wz:∀xs∈List.replicate T (List.replicate pt.length (0:Rat)),xs.length=pt.length:=λxs hx=>by rw[iE hx,aI]
  have lz:(List.replicate T (List.replicate pt.length (0:Rat))).length=T:=aI ..;rw[lz] at hk;obtain ⟨_,f⟩:=X.end D ls lz wz b0 b1 hs (λxs hx x hx'=>by rw[Gg hx hx'];exact Fr.zero) Z';have m1:a1*k<=a1*T:=aF _ hk;have m2:c*k<=c*T:=aF _ hk;exact ⟨M1^k*(M2*B),2^(c*k+g),bU (dO X.m1) n0,ai (iG X.b1 hN) (au (by decide) (by unfold ze at h1;lia)),au (by decide) (by lia),f k hk,λxs hx x hx'=>by rw[Gg hx hx'];exact Fr.zero⟩
 ·have f:=X.kry D u xs hx x hx';rw[<- eD];refine Tp.of (Fr.up (M':=M1^(mv.length - 1)*M2) (V':=2^(c*mv.length)) f (CK (MY _ (by lia)) _) (au (by decide) (aF _ hu))) (ak _)
 ·refine ai (aJ dD dE) ?_;rw[<- bo];exact au (by decide) (by lia)
 ·refine ⟨zw mv.length a1 a2 c+ze a1 a2 T b+zu a1 a2 c T b g+zd mv.length a1 a2+2,?_,h3,h4⟩
  have S:∀{x y k j:Nat},x<=2^k->y<=2^j->k+j<=zw mv.length a1 a2 c+ze a1 a2 T b+zu a1 a2 c T b g+zd mv.length a1 a2->x*y<=2^(zw mv.length a1 a2 c+ze a1 a2 T b+zu a1 a2 c T b g+zd mv.length a1 a2):=λhx hy hk=>by
   refine ai (aJ hx hy) ?_;rw[<- bo];exact au (by decide) hk
  have s1:=S dW dE (by lia);have s2:=S dU dD (by lia);have s3:=S dD dE (by lia);rw[bo _ _ 2];generalize 2^(zw mv.length a1 a2 c+ze a1 a2 T b+zu a1 a2 c T b g+zd mv.length a1 a2)=P at s1 s2 s3 ⊢
  lia
 ·have Np0:0 < E*q:=bU E0 q0;have hq':q<=2^zq mv.length a1 a2 c:=ai hq q2
  have hP:Dd*(mv.length*(2^(c*T+g+1)*E*(16*(2^(c*mv.length)*Dd))^mv.length))<=2^(zd mv.length a1 a2+3+zu a1 a2 c T b g+zq mv.length a1 a2 c):=by
   have n3:mv.length<=2^3:=D.n8;refine ai (aJ dD (aJ n3 (aJ dU q2))) ?_;rw[<- bo,<- bo,<- bo];exact au (by decide) (by lia)
  refine ⟨M1,M2,V,a1,a2,c,M2*(E*q),E*q,zd mv.length a1 a2+3+zu a1 a2 c T b g+zq mv.length a1 a2 c,a2+ze a1 a2 T b+zq mv.length a1 a2 c,X,bU X.m2 Np0,?_,Bh _,λx hx=>?_,λxs hx x hx'=>((hp xs hx x hx').fr Np0).mono hP,?_,h6⟩
  ·rw[bo,bo,cy];exact aJ X.b2 (aJ dE hq')
  ·refine Fr.up (hs x hx) ?_ (au (by decide) (by unfold zu;lia));rw[<- eE];exact gD (gD (gD (df _ M2) (df _ (M1^T))) (JO _ q)) (df _ _)
  ·rw[lq];exact h5
theorem Bd.prf (X:Bd mv pt M1 M2 V a1 a2 c) (D:fM mv pt lk) (ls:st.length=mv.length) (b0:0 < B) (b1:B<=2^b) (hs:∀x∈st,Fr B (2^g) x) (hg:∀x∈go,Fr (M1^T*(M2*B)) (2^(c*T+g)) x) (Z:ZS mv.length a1 a2 c T b g) (P:ZP mv.length a1 a2 c T b g) {q:Nat} (q0:0 < q) (hq:q<=(16*(2^(c*mv.length)*(M1^(mv.length - 1)*M2)))^mv.length*(16*(2^(c*T+g+1)*(M1^T*(M2*B))+M1^T*(M2*B)))) (hp:∀y∈pr,Tp q ((16*(2^(c*mv.length)*(M1^(mv.length - 1)*M2)))^mv.length*(16*(2^(c*T+g+1)*(M1^T*(M2*B))+M1^T*(M2*B)))) y):Tb mv pt T st go pr/\∀(L:List Rat) (B':Nat),0 < B'->B'<=2^b->(∀x∈L,Fr (M1^T*(M2*B')) (2^(c*T+g+1)) x)->Ab pr L:=by
 have n0:∀{B'},0 < B'->0 < M1^T*(M2*B'):=λh=>bU (dO X.m1) (bU X.m2 h)
 have hN:∀{B'},B'<=2^b->M1^T*(M2*B')<=2^ze a1 a2 T b:=λh=>by
  rw[show ze a1 a2 T b=a1*T+(a2+b) by unfold ze;lia];exact iG X.b1 (by rw[bo];exact aJ X.b2 h)
 have ct:=X.ctf D ls b0 b1 hs hg Z;have hl:=X.lack D ls hs hg;obtain ⟨h1,h2,h3,h4,h5,h6,h7⟩:=Z;obtain ⟨p1,p2⟩:=P;have dD:M1^(mv.length - 1)*M2<=2^zd mv.length a1 a2:=iG X.b1 X.b2;have dE:=hN b1
 have W:(16*(2^(c*mv.length)*(M1^(mv.length - 1)*M2)))^mv.length*(16*(2^(c*T+g+1)*(M1^T*(M2*B))+M1^T*(M2*B)))<=2^(zq mv.length a1 a2 c+5+zu a1 a2 c T b g):=by
  have e1:16*(2^(c*mv.length)*(M1^(mv.length - 1)*M2))<=2^(4+zw mv.length a1 a2 c):=by
   rw[show zw mv.length a1 a2 c=c*mv.length+zd mv.length a1 a2 by unfold zw;lia,bo 2 4,bo];exact aF _ (aF _ dD)
  have e2:=jo e1 mv.length;rw[<- zx,b6 (4+zw mv.length a1 a2 c)] at e2
  have e3:2^(c*T+g+1)*(M1^T*(M2*B))<=2^zu a1 a2 c T b g:=by
   rw[show zu a1 a2 c T b g=c*T+g+1+ze a1 a2 T b by unfold zu;lia,bo 2 (c*T+g+1)];exact aF _ dE
  have e4:M1^T*(M2*B)<=2^(c*T+g+1)*(M1^T*(M2*B)):=cI _ (dO (by decide));generalize 2^(c*T+g+1)*(M1^T*(M2*B))=u at e3 e4 ⊢;rw[show zq mv.length a1 a2 c+5+zu a1 a2 c T b g=mv.length*(4+zw mv.length a1 a2 c)+(5+zu a1 a2 c T b g) by unfold zq;lia,bo];refine aJ e2 ?_;rw[bo];generalize M1^T*(M2*B)=v at e4 ⊢
  lia
 have fp:sE (zq mv.length a1 a2 c+5+zu a1 a2 c T b g) (zq mv.length a1 a2 c+5+zu a1 a2 c T b g) pr:=⟨q,_,q0,ai hq W,W,λx hx=>(hp x hx).fr q0⟩;have key:∀(L:List Rat) (B':Nat),0 < B'->B'<=2^b->(∀x∈L,Fr (M1^T*(M2*B')) (2^(c*T+g+1)) x)->Ab pr L:=λL B' c0 c1 h=>⟨_,_,ze a1 a2 T b,c*T+g+1,fp,⟨_,_,n0 c0,hN c1,ak _,h⟩,by unfold zu at p1 ⊢;lia⟩
 refine ⟨⟨⟨M1,M2,V,a1,a2,c,X,h7⟩,⟨M1,V,a1,c,B,g,b,X.m1,X.b1,X.gm,X.vc,b0,b1,hs,by unfold zu ze at h5;lia⟩,ct.sg,λx hx=>tD q0 (ai hq W) W (by lia) ((hp x hx).fr q0),λxs hx=>?_,key _ B b0 b1 hl⟩,key⟩;refine ⟨_,_,a1*T+a2,c*(T+1),fp,⟨M1^T*M2,2^(c*T),bU (dO X.m1) X.m2,iG X.b1 X.b2,au (by decide) (aF _ (by lia)),λx hx'=>(X.kry D T xs hx x hx').dvd (CK (MY _ (by lia)) _)⟩,by lia⟩
theorem Q2 {n a1 a2 c T b g:Nat} (h:ZS n a1 a2 c T b (g+1)):ZS n a1 a2 c T b g:=by
 obtain ⟨h1,h2,h3,h4,h5,h6,h7⟩:=h;have e:zu a1 a2 c T b g<=zu a1 a2 c T b (g+1):=by unfold zu;lia
 exact ⟨h1,by lia,by lia,ai (aF _ (by lia)) h4,by lia,h6,h7⟩
structure Us (mv pt:LR9) (w T M1 M2 V a1 a2 c b1 b2:Nat):Prop where
 bd:Bd mv pt M1 M2 V a1 a2 c
 z1:ZS mv.length a1 a2 c T b1 23
 zp:ZP mv.length a1 a2 c T b1 23
 z2:ZS mv.length a1 a2 c T b2 23
 dr:∀l:List Rat,(∀x∈l,Dr (max w 6) x)->∃B,0 < B/\6∣B/\(∀x∈l,Fr B (2^22) x)/\(l.length<=2*mv.length+T*pt.length->B<=2^b1)/\(l.length<=2*mv.length+2*(T*pt.length)->B<=2^b2)
theorem Pw (R:Rg mv pt w) (D:fM mv pt lk) (S:StP mv pt T):∃M1 M2 V a1 a2 c b1 b2,Us mv pt w T M1 M2 V a1 a2 c b1 b2:=by
 have i4:=D.i4;have n8:=D.n8;have small:w<=9->∀l:List Rat,(∀x∈l,Dr (max w 6) x)->∃B,0 < B/\6∣B/\(∀x∈l,Fr B (2^22) x)/\(l.length<=2*mv.length+T*pt.length->B<=2^12)/\(l.length<=2*mv.length+2*(T*pt.length)->B<=2^12):=λw9 l h=>⟨2520,by decide,by decide,λx hx=>(Mw ⟨ai (h x hx).1 (by lia),ai (h x hx).2 (by lia)⟩ (Bh _)).mono (by decide),λ_=>by decide,λ_=>by decide⟩
 have wide:w=1000->∀t,T*pt.length<=t->mv.length<=2->∀l:List Rat,(∀x∈l,Dr (max w 6) x)->∃B,0 < B/\6∣B/\(∀x∈l,Fr B (2^22) x)/\(l.length<=2*mv.length+T*pt.length->B<=2^(45+10*t))/\(l.length<=2*mv.length+2*(T*pt.length)->B<=2^(45+20*t)):=λw9 t ht n2 l h=>by
  obtain ⟨B,h0,h1,h2⟩:=KA (c:=10) (l:=l) (λx hx=>⟨ai (h x hx).1 (by rw[w9];decide),ai (h x hx).2 (by rw[w9];decide)⟩) (by decide)
  have up:∀k,3+(10*l.length+2)<=k->6*B<=2^k:=λk hk=>by
   refine ai ?_ (au (by decide) hk);rw[bo 2 3];exact aJ (by decide) h1
  exact ⟨6*B,by lia,JO _ _,λx hx=>(h2 x hx).scaleL 6,λhl=>up _ (by lia),λhl=>up _ (by lia)⟩
 rcases R with ⟨w9,X⟩ | ⟨w9,n5,X⟩ | ⟨w9,n2,M1,M2,X⟩
 ·exact ⟨_,_,_,_,_,_,12,12,X,mh (n':=8) (T':=12) (b':=12) n8 S.1 (ak _) (by decide),AU (n':=8) (T':=12) (b':=12) n8 S.1 (ak _) (by decide),mh (n':=8) (T':=12) (b':=12) n8 S.1 (ak _) (by decide),small w9⟩
 ·exact ⟨_,_,_,_,_,_,12,12,X,mh (n':=5) (T':=12) (b':=12) n5 S.1 (ak _) (by decide),AU (n':=5) (T':=12) (b':=12) n5 S.1 (ak _) (by decide),mh (n':=5) (T':=12) (b':=12) n5 S.1 (ak _) (by decide),small w9⟩
 ·by_cases T3:T<=3
  ·have m:T*pt.length<=3*4:=aJ T3 i4;exact ⟨_,_,_,_,_,_,165,285,X,mh (n':=2) (T':=3) (b':=165) n2 T3 (ak _) (by decide),AU (n':=2) (T':=3) (b':=165) n2 T3 (ak _) (by decide),mh (n':=2) (T':=3) (b':=285) n2 T3 (ak _) (by decide),wide w9 12 m n2⟩
  ·obtain ⟨T12,z | ⟨hd,_⟩⟩:=S
   ·exact absurd z T3
   have m:T*pt.length<=12*4:=aJ T12 i4
   have gf:∀l:LR9,(∀xs∈l,xs∈mv++pt)->GF 2520 1000 l:=λl hl xs hx x hx'=>by
    have:=hd xs (hl xs hx) x hx';exact (Fr.own x (bc this.2)).dvd (Jy this.1)
   have X2:Bd mv pt 2520 2520 1000 12 12 13:=⟨by decide,by decide,by decide,by decide,gf mv λxs hx=>ay.mpr (.inl hx),gf pt λxs hx=>ay.mpr (.inr hx),ai (aA _ (show mv.length+4<=6 by lia)) (by decide)⟩;exact ⟨_,_,_,_,_,_,525,1005,X2,mh (n':=2) (T':=12) (b':=525) n2 T12 (ak _) (by decide),AU (n':=2) (T':=12) (b':=525) n2 T12 (ak _) (by decide),mh (n':=2) (T':=12) (b':=1005) n2 T12 (ak _) (by decide),wide w9 48 m n2⟩
end
section
variable {mv pt lk pus pus':LR9} {st st' pu go pr:List Rat} {M1 M2 V a1 a2 c B b1 b2 g p t T w:Nat}
theorem Qi {l:List Rat} (h:∀x∈l,Fr B (2^22) x):∀x∈l,Fr B (2^23) x:=λx hx=>(h x hx).mono (by decide)
end
open PySem.MeetsSeq
def QY (mv pt:LR9) (T u:Nat):Prop:=(∃R ps ps',cD (kry mv pt u) mv.length R ps/\cD (kry mv pt T) mv.length R ps')/\∀i,i < u->∀R ps ps',cD (kry mv pt i) mv.length R ps->¬cD (kry mv pt T) mv.length R ps'
def OF (mv pt:LR9) (T:Nat) (L:List Rat) (pus:LR9):Prop:=∃u R ps,QY mv pt T u/\cD (dh (cW (kry mv pt u) mv.length) L) ((kry mv pt u).length+1) R ps/\(kry mv pt u).length∉ps/\pus=BJ (gG R ps (kry mv pt u).length) T u pt.length
def QM (mv pt:LR9) (T:Nat) (L pr:List Rat):Prop:=∃u R ps R' ps',QY mv pt T u/\cD (dh (cW (kry mv pt u) mv.length) L) ((kry mv pt u).length+1) R ps/\(kry mv pt u).length∈ps/\cD (dh (kry mv pt u++[L]) (List.replicate (kry mv pt u).length 0++[1])) (mv.length+1) R' ps'/\pr=gG R' ps' mv.length
section
variable {mv pt:LR9} {T u u':Nat} {L pr pr':List Rat} {pus pus':LR9} {Rs:List (LR9)}
theorem QY.uniq (h:QY mv pt T u) (h':QY mv pt T u'):u=u':=by
 obtain ⟨⟨R,ps,ps2,a,b⟩,c⟩:=h;obtain ⟨⟨R',ps',ps2',a',b'⟩,c'⟩:=h';rcases lh u u' with h | h | h
 ·exact absurd b (c' u h _ _ _ a)
 ·exact h
 ·exact absurd b' (c u' h _ _ _ a')
theorem OF.uniq (h:OF mv pt T L pus) (h':OF mv pt T L pus'):pus=pus':=by
 obtain ⟨u,R,ps,a,b,_,rfl⟩:=h;obtain ⟨u',R',ps',a',b',_,rfl⟩:=h';cases a.uniq a';obtain ⟨rfl,rfl⟩:=b.same b';rfl
theorem QM.uniq (h:QM mv pt T L pr) (h':QM mv pt T L pr'):pr=pr':=by
 obtain ⟨u,R,ps,R2,ps2,a,b,_,c,rfl⟩:=h;obtain ⟨u',R',ps',R2',ps2',a',b',_,c',rfl⟩:=h';cases a.uniq a';obtain ⟨rfl,rfl⟩:=c.same c';rfl
theorem OF.not (h:OF mv pt T L pus) (h':QM mv pt T L pr):False:=by
 obtain ⟨u,R,ps,a,b,n,rfl⟩:=h;obtain ⟨u',R',ps',R2',ps2',a',b',m,c',rfl⟩:=h';cases a.uniq a';obtain ⟨rfl,rfl⟩:=b.same b';exact n m
theorem vN.lt (h:vN mv pt Rs):∀(k i:Nat) (R R':LR9),Rs[i]?=some R->Rs[i+1+k]?=some R'->R.length < R'.length
 | 0,i,R,R',a,b=>h.up i R R' a b
 | k+1,i,R,R',a,b=>by
  have hk:i+1+k < Rs.length:=by have:=(aB.mp b).1;lia
  have e:Rs[i+1+k]?=some Rs[i+1+k]:=af hk;exact Nat.lt_trans (h.lt k i R _ a e) (h.up (i+1+k) _ R' e b)
theorem vN.cmu (h:vN mv pt Rs) {R:LR9} {psT:List Nat} (eR:Rs[u]?=some R) (RRT:cD (kry mv pt T) mv.length R psT):QY mv pt T u:=by
 obtain ⟨ps,RRu⟩:=h.rr u R eR;refine ⟨⟨R,ps,psT,RRu,RRT⟩,λi hi R1 ps1 ps2 a b=>?_⟩;have hu:=(aB.mp eR).1;have ei:Rs[i]?=some (Rs[i]'(by lia)):=af (by lia);obtain ⟨psi,RRi⟩:=h.rr i _ ei;have lt:=h.lt (u - i - 1) i _ R ei (by rw[show i+1+(u - i - 1)=u by lia];exact eR);have e1:=(RRi.same a).1;have e2:=(RRT.same b).1;rw[e1,e2] at lt;exact eH _ lt
end
inductive FT (K:FG9) (C:Addr) (vs:List V) (H:Hp) (Q:VK) (E9:XK):Prop
 | mk (x s g:Addr) (T a c D W0 E W1:Nat) (H0:Hp) (mv pt lk:LR9) (st go:List Rat):vs=[.ref x,.ref s,.ref g,.int T]->T<=99->nX K H0 H C x mv pt lk->fM mv pt lk->KI mv pt lk->uN mv pt a c->cw K H s st->st.length=mv.length->cw K H g go->go.length=mv.length->Hv mv pt st (List.replicate T (List.replicate pt.length 0))->(∀x∈go,ug x)->SJ mv pt (gF mv T st go) D W0 E W1->((∀t p pus q H',H' t=some (.tup [.str (Str.ofString "puts"),.ref p])->H p=none->aE H H'->bP K H H' p pus->pus.length=T->(∀xs∈pus,xs.length=pt.length)->sP mv pt st pus T=go->OF mv pt T (gF mv T st go) pus->0 < q->q<=(16*W0)^mv.length->(∀xs∈pus,∀x∈xs,Tp (E*q) (D*(mv.length*(W1*(16*W0)^mv.length))) x)->Q (.ref t) H')/\(∀t p pr q H',H' t=some (.tup [.str (Str.ofString "never"),.ref p])->H p=none->aE H H'->cw K H' p pr->pr.length=mv.length->(∀xs∈kry mv pt T,eC xs pr=0)->eC pr (gF mv T st go)=1->QM mv pt T (gF mv T st go) pr->0 < q->q<=(16*W0)^mv.length*(16*(W1+E))->(∀y∈pr,Tp q ((16*W0)^mv.length*(16*(W1+E))) y)->Q (.ref t) H'))->FT K C vs H Q E9
section
variable {X:Cx} {tg l:Expr} {tl:TE}
def Mc (K:FG9) (tl:TE):TI:=λσ H R=>tl σ H λx H1=>∃a,x=.ref a/\((∃xs,bS K H1 a xs)/\R (MW K a) H1\/(∃xs,lA K H1 a xs)/\R (OE K a) H1)
theorem Qa (hl:PE X l tl):PI X tg l (Mc X.K tl):=by
 intro pins s σ H R I h;refine fR (hl pins s σ H _ I h) λv s1 ⟨x,H1,I1,r1,q1⟩=>?_
 obtain ⟨a,e,q1⟩:=q1;subst e;cases r1;rcases q1 with ⟨⟨xs,hq⟩,q⟩ | ⟨⟨xs,hq⟩,q⟩
 ·obtain ⟨its,rv,p,hz⟩:=I1.list hq;refine wpAny_pyIter_list p.isList ?_;refine ⟨s1.heap.objs.size,[s1.heap.objs.size],_,_,H1,rfl,I1.kept (t':=s1.toks) λb o e=>Heap.get?_push_of_some _ e,Di a _,⟨_,Heap.get?_push_size _ rfl,rfl,rfl⟩,λb hb=>?_,q⟩;have e:b=s1.heap.objs.size:=by simpa using hb
  subst e;exact I1.fpOk (ak _) (I1.hok.fresh (ak _))
 ·obtain ⟨its,rv,p,hz⟩:=I1.tuple hq;refine wpAny_pyIter_tuple (show s1.heap.IsTuple a its.toArray from p) ?_;refine ⟨s1.heap.objs.size,[s1.heap.objs.size],_,_,H1,rfl,I1.kept (t':=s1.toks) λb o e=>Heap.get?_push_of_some _ e,Bl a _,⟨_,Heap.get?_push_size _ rfl,rfl,rfl⟩,λb hb=>?_,q⟩;have e:b=s1.heap.objs.size:=by simpa using hb
  subst e;exact I1.fpOk (ak _) (I1.hok.fresh (ak _))
end
section
variable {X:Cx} {pins:List (Addr×Obj)} {σ:St} {H:Hp} {s:Shared} {A:Around} {E:Value->Shared->Prop} {Q:Value->Shared->Prop} {b:Bool} {tp:Addr} {dd:Option Addr} {its:List Value} {n:Nat} {sl:Array (Option Value)}
theorem Io {x:V} {u t:Value} (I:Inv X pins σ H s) (rx:RelV x u) (ty:yf X.K H x t) (htp:s.heap.get? tp=some ⟨.type "tuple",dd,.seq its.toArray n,sl⟩) (e:PySem.W.kitAny X.K t its=some b) (h:∀tk,Q (.bool b) { s with toks:=tk }) :
  wpAny (model X.prog X.w) A (call (.builtin "isinstance") [u,.ref tp]) Q E s:=by
 cases ty with
 | non=>cases (show u=Value.none from rx);exact dG PySem.W.kitx_none I.kIn True.intro htp e (λz=>nomatch z) h
 | bl y=>cases (show u=Value.bool y from rx);exact dG PySem.W.kitx_bool I.kIn True.intro htp e (λz=>nomatch z) h
 | int i=>obtain ⟨t,q⟩:=(show ∃t,u=Value.int i t from rx);cases q;exact dG PySem.W.kitx_int I.kIn True.intro htp e (λz=>nomatch z) h
 | str y=>obtain ⟨t,q⟩:=(show ∃t,u=Value.str y t from rx);cases q;exact dG PySem.W.kitx_str I.kIn True.intro htp e (λz=>nomatch z) h
 | flt y=>obtain ⟨t,q⟩:=(show ∃t,u=Value.float y t from rx);cases q;exact dG PySem.W.kitx_float I.kIn True.intro htp e (λz=>nomatch z) h
 | @lst a xs ea =>
  cases (show u=Value.ref a from rx);obtain ⟨_,_,n,_,h1⟩:=(show fZ X.prog X.w H s.heap a (.lst xs) from I.hok a _ ea);exact dG zo I.kIn ⟨_,h1,rfl⟩ htp e (λz=>nomatch z) h
 | @frz a ob xs ea =>
  cases (show u=Value.ref a from rx);obtain ⟨_,_,_,n,_,h1⟩:=(show fZ X.prog X.w H s.heap a (.frz ob (.lst xs)) from I.hok a _ ea);exact dG zo I.kIn ⟨_,h1,rfl⟩ htp e (λz=>nomatch z) h
 | @tup a xs ea =>
  cases (show u=Value.ref a from rx);obtain ⟨_,_,_,p⟩:=(show fZ X.prog X.w H s.heap a (.tup xs) from I.hok a _ ea);obtain ⟨o,h1,h2,_⟩:=p;exact dG xM I.kIn ⟨o,h1,h2⟩ htp e (λz=>nomatch z) h
 | @dK a kvs ea =>
  cases (show u=Value.ref a from rx);obtain ⟨_,_,vs,_,p⟩:=(show fZ X.prog X.w H s.heap a (.dK kvs) from I.hok a _ ea);obtain ⟨o,es,ep,h1,h2,_⟩:=p;exact dG zv I.kIn ⟨o,h1,h2.1⟩ htp e (λz=>nomatch z) h
 | @dT a kvs ea =>
  cases (show u=Value.ref a from rx);obtain ⟨_,_,xs,_,o,es,ep,h1,h2,_⟩:=(show fZ X.prog X.w H s.heap a (.dT kvs) from I.hok a _ ea);exact dG zv I.kIn ⟨o,h1,h2.1⟩ htp e (λz=>nomatch z) h
 | @ins a C dx fs ea cl ha hn htk hm =>
  cases (show u=Value.ref a from rx);obtain ⟨mA,O,_⟩:=yK I.hok ea;obtain ⟨od,J,_⟩:=O.look;exact dG (PySem.W.kitx_own (cl.get _) cl.hd ha hn htk hm) I.kIn J htp e (λz=>nomatch z) h
def RM (K:FG9):List V->Hp->VK->Prop:=λvs H Q=>∃x tp,vs=[x,.ref tp]/\H tp=some (.tup [.ty "list",.ty "tuple"])/\((∃t b,yf K H x t/\PySem.W.kitAny K t [.type "list",.type "tuple"]=some b/\Q (.bl b) H)\/∃a xs,x=.ref a/\lA K H a xs/\Q (.bl true) H)
theorem KE {X:Cx}:rz X (.builtin "isinstance") (RM X.K):=by
 intro pins s σ H vs us Q I r h;obtain ⟨x,tp,rfl,et,q1⟩:=h;obtain ⟨u,v,rfl,ru,rv⟩:=vals2 r;cases rv;obtain ⟨_,its,rits,o,ho,hoc,n,hod⟩:=(show fZ X.prog X.w H s.heap tp (.tup [.ty "list",.ty "tuple"]) from I.hok tp _ et);obtain ⟨oc,od,dt,sl⟩:=o
 dsimp only at hoc hod
 subst hoc hod
 obtain rfl:its=[.type "list",.type "tuple"]:=by
  cases rits with
  | cons a r=>cases r with
   | cons a2 r2=>cases r2;cases a;cases a2;rfl
 rcases q1 with ⟨t,b,ty,ek,q⟩ | ⟨ad,xs,rfl,hs,q⟩
 ·exact Io I ru ty ho ek λtk=>⟨.bl b,H,I.tok tk,rfl,q⟩
 ·cases ru;obtain ⟨_,_,⟨o,g1,g2,_⟩,_⟩:=I.tuple hs;exact dG xM I.kIn ⟨o,g1,g2⟩ ho (b:=true) rfl (λz=>nomatch z) λtk=>⟨.bl true,H,I.tok tk,rfl,q⟩
end
inductive Ed where
 | fl (v:V)
 | row (qs:List Rat)
 | grid (rs:LR9)
def Ed.ok:Ed->Prop
 | .fl v=>p7 v=true
 | .row qs=>qs.length<=100
 | .grid rs=>rs.length<=100/\∀qs∈rs,qs.length<=100
def CB (K:FG9) (H0 H:Hp):Ed->V->Prop
 | .fl v,x=>x=v
 | .row qs,x=>∃p,x=.ref p/\H0 p=none/\cw K H p qs
 | .grid rs,x=>∃p,x=.ref p/\H0 p=none/\bP K H0 H p rs
theorem CB.same {K:FG9} {H0 H H':Hp} {d:Ed} {x:V} (h:CB K H0 H d x) (s:aE H H'):CB K H0 H' d x:=by
 cases d with
 | fl v=>exact h
 | row qs=>obtain ⟨p,a,b,c⟩:=h;exact ⟨p,a,b,c.same s⟩
 | grid rs=>obtain ⟨p,a,b,c⟩:=h;exact ⟨p,a,b,c.same s⟩
def IW (K:FG9) (n:Nat):Sp:=match n with
 | 0=>λ_ _ _ _=>False
 | i+1=>λvs H Q _=>∃x,vs=[x] /\
  ((p7 x=true/\∀H',aE H H'->Q x H')
  \/ (1<=i/\∃q,cx K H q x/\∀r H',aE H H'->cx K H' q (.ref r)->Q (.ref r) H')
  \/ (2<=i/\∃p qs,x=.ref p/\cw K H p qs/\qs.length<=100/\∀r H',H r=none->aE H H'->cw K H' r qs->Q (.ref r) H')
  \/ (3<=i/\∃p H0 rs,x=.ref p/\bP K H0 H p rs/\rs.length<=100/\(∀qs∈rs,qs.length<=100)/\∀r H',H r=none->aE H H'->bP K H H' r rs->Q (.ref r) H')
  \/ (4<=i/\∃t xs H0 ds,x=.ref t/\lA K H t xs/\Paired (CB K H0 H) ds xs/\ds.length<=10/\(∀d∈ds,Ed.ok d)/\∀r ys H',aE H H'->H' r=some (.tup ys)->Paired (CB K H H') ds ys->Q (.ref r) H'))
section
variable {K:FG9} {a:Addr} {xs:List V} {g:TG} {tf:TT} {te:TE} {Q:VK} {σ₀:St} {H:Hp} {α β:Type}
theorem DQ {as:List α} {F:Hp->α->V->Prop} (G:Hp->β->V->Prop) (f:α->β) (hx:lA K H a xs) (pf:Paired (F H) as xs) (hl:as.length<=1000)
  (hF:∀{H H' c x},F H c x->aE H H'->F H' c x) (hG:∀{H H' c x},G H c x->aE H H'->G H' c x)
  (hs:∀(i:Nat) c x H' NY NN,as[i]?=some c->aE H H'->F H' c x->(∀y H2,aE H' H2->G H2 (f c) y->NY y H2)->uD σ₀ g tf te x H' NY NN)
  (hd:∀ys H' p,H p=none->aE H H'->H' p=some (.lst ys)->Paired (G H') (as.map f) ys->(∃H2,H2 p=none/\Paired (G H2) (as.map f) ys)->Q (.ref p) H'):uJ (OE K a) σ₀ g tf te Q H:=by
 have lx:=pf.length;refine MF (K:=K) (xs:=xs) (λi ys H'=>aE H H'/\Paired (G H') ((as.take i).map f) ys) (bc (bF (by lia))) ⟨aE.refl _,.nil⟩ (λi ys H' _ ⟨s,_⟩=>s.sqt hx) ?_ ?_
 ·rintro i x ys H' hx' hlen ⟨s,pr⟩;obtain ⟨c,ec,hc⟩:=cv pf hx';refine hs i c x H' _ _ ec s (hF hc s) λy H2 s2 gy=>⟨s.trans s2,?_⟩
  rw[take_snoc ec,cS];exact bW (Paired.imp' (λ_ _ z=>hG z s2) pr) (.cons gy .nil)
 ·rintro ys H' hy ⟨s,pr⟩ p hp;rw[aG (by lia)] at pr;exact hd ys _ p (s.none hp) (s.trans (aE.new hp)) aK (Paired.imp' (λ_ _ z=>hG z (aE.new hp)) pr) ⟨H',hp,pr⟩
end
def Kp (S:Addr->Prop) (H H':Hp):Prop:=∀a o,H a=some o->(¬S a\/∀zs,o≠.lst zs)->H' a=some o
section
variable {K:FG9} {S S':Addr->Prop} {H H' H'':Hp} {p:Addr} {q:Rat} {qs:List Rat} {x:V}
theorem Kp.of (s:aE H H'):Kp S H H':=λa o h _=>s a o h
theorem Kp.mono (h:Kp S H H') (hs:∀a,S a->S' a):Kp S' H H':=λa o e c=>h a o e (c.elim (λn=>.inl λz=>n (hs a z)) .inr)
theorem Kp.trans (h:Kp S H H') (h':Kp S H' H''):Kp S H H'':=λa o e c=>h' a o (h a o e c) c
theorem Kp.upd {ys:List V} {o:HO} (hl:H p=some (.lst ys)) (hS:S p):Kp S H (upd H p o):=λa o' e c=>by
 by_cases z:a=p
 ·subst z;rw[hl] at e;cases e;exact c.elim (λn=>absurd hS n) λn=>absurd rfl (n ys)
 ·rw[bH z];exact e
theorem Kp.sqt (h:Kp S H H') {a:Addr} {xs:List V} (s:lA K H a xs):lA K H' a xs:=by
 rcases s with (e | ⟨o,e⟩) | e
 ·exact .inl (.inl (h _ _ e (.inr λ_ z=>nomatch z)))
 ·exact .inl (.inr ⟨o,h _ _ e (.inr λ_ z=>nomatch z)⟩)
 ·exact .inr e
theorem Kp.numR (h:Kp S H H') {n:Int×Int} (m:zj K H x n):zj K H' x n:=by obtain ⟨p,e,s⟩:=m;exact ⟨p,e,h.sqt s⟩
theorem Kp.num (h:Kp S H H') (n:cx K H q x):cx K H' q x:=by obtain ⟨p,e,s⟩:=n;exact ⟨p,e,h.sqt s⟩
theorem Kp.row (h:Kp S H H') (n:¬S p) (r:cw K H p qs):cw K H' p qs:=by
 obtain ⟨xs,g,pr⟩:=r;exact ⟨xs,h _ _ g (.inl n),Paired.imp' (λ_ _ z=>h.num z) pr⟩
end
def QL (K:FG9) (W:Addr->Prop) (H:Hp):Ed->V->Prop
 | .fl v,x=>x=v
 | .row qs,x=>∃p,x=.ref p/\W p/\cw K H p qs
 | .grid rs,x=>∃p us,x=.ref p/\W p/\H p=some (.lst us)/\V.ref p∉us/\Paired (λqs v=>∃q,v=V.ref q/\W q/\cw K H q qs) rs us
theorem QL.kp {K:FG9} {S W:Addr->Prop} {H H':Hp} {d:Ed} {x:V} (h:QL K W H d x) (k:Kp S H H') (n:∀a,W a->¬S a):QL K W H' d x:=by
 cases d with
 | fl v=>exact h
 | row qs=>obtain ⟨p,a,b,c⟩:=h;exact ⟨p,a,b,k.row (n p b) c⟩
 | grid rs =>
  obtain ⟨p,us,a,b,c,d,e⟩:=h;exact ⟨p,us,a,b,k _ _ c (.inl (n p b)),d,Paired.imp' (λ_ _ ⟨q,a,b,c⟩=>⟨q,a,b,k.row (n q b) c⟩) e⟩
theorem CB.elW {K:FG9} {H0 Hf H:Hp} {d:Ed} {x:V} (h:CB K H0 Hf d x) (s:aE Hf H):QL K (λa=>H0 a=none/\Hf a≠none) H d x:=by
 cases d with
 | fl v=>exact h
 | row qs =>
  obtain ⟨p,a,b,c⟩:=h;exact ⟨p,a,⟨b,by obtain ⟨_,g,_⟩:=c;rw[g];exact λz=>nomatch z⟩,c.same s⟩
 | grid rs =>
  obtain ⟨p,a,b,us,c,d,e⟩:=h;exact ⟨p,us,a,⟨b,by rw[c];exact λz=>nomatch z⟩,s _ _ c,e,Paired.imp' (λ_ _ ⟨q,a,b,c⟩=>⟨q,a,⟨b,by obtain ⟨_,g,_⟩:=c;rw[g];exact λz=>nomatch z⟩,c.same s⟩) d⟩
def Dn (K:FG9) (n:Nat):Sp:=match n with
 | 0=>λ_ _ _ _=>False
 | i+1=>λvs H Q _=>∃x,vs=[x] /\
  ((p7 x=true/\∀H',aE H H'->Q .non H')
  \/ (1<=i/\∃n,zj K H x n/\∀H',aE H H'->Q .non H')
  \/ (2<=i/\∃p zs,x=.ref p/\H p=some (.lst zs)/\zs.length<=500/\(∀z∈zs,∃n,zj K H z n)/\∀t H',Kp (λa=>a=p) H H'->H' t=some (.tup [.int 7,.int 1])->H' p=some (.lst (zs++[.ref t]))->Q .non H')
  \/ (3<=i/\∃p us,x=.ref p/\H p=some (.lst us)/\us.length<=100/\V.ref p∉us/\(∀y∈us,∃q zs,y=.ref q/\H q=some (.lst zs)/\zs.length<=100/\∀z∈zs,∃n,zj K H z n)/\∀H',Kp (λa=>a=p\/V.ref a∈us) H H'->Q .non H')
  \/ (4<=i/\∃(t:Addr) (xs:List V) (ews:List (Ed×(Addr->Prop))),x=.ref t/\lA K H t xs/\Paired (λ(e:Ed×(Addr->Prop)) v=>QL K e.2 H e.1 v) ews xs/\ews.length<=10/\(∀e∈ews,Ed.ok e.1)/\(∀(i j:Nat) (e e':Ed×(Addr->Prop)),i < j->ews[i]?=some e->ews[j]?=some e'->∀a,e'.2 a->¬e.2 a)/\∀H',Kp (λa=>∃e∈ews,e.2 a) H H'->Q .non H'))
def S3:Kind Unit where
 R:=λ_ _ x _=>x=.non
 d:=0
 inj:=λ_ _ _=>rfl
 rc:=λ{X pins σ H s x y v u a b A} I rx ry h1 h2 _=>by
  subst h1 h2;cases rx;cases ry;exact SeqAt.RcAt.none_none
 ne:=λ{X pins σ H s x y v u a b A} I rx ry h1 h2 _=>by
  subst h1 h2;cases rx;cases ry;exact SeqAt.RcNeAt.none_none
 eq:=λ{X pins σ H s x y v u a b A} I rx ry h1 h2 _=>by
  subst h1 h2;cases rx;cases ry;exact SeqAt.EqAt.same _
section
variable {α β γ:Type} [DecidableEq α] [DecidableEq β] [DecidableEq γ] (k1:Kind α) (k2:Kind β) (k3:Kind γ)
theorem vals3 {x y z:V} {us:List Value} (r:cU [x,y,z] us):∃u v w,us=[u,v,w]/\RelV x u/\RelV y v/\RelV z w:=by
 cases r with
 | cons a r=>cases r with
  | cons b r=>cases r with
   | cons c r=>cases r;exact ⟨_,_,_,rfl,a,b,c⟩
def e3 (a b:α×β×γ) (j:Nat):Bool:=if j=0 then decide (a.1=b.1) else if j=1 then decide (a.2.1=b.2.1) else decide (a.2.2=b.2.2)
theorem uS {X:Cx} {pins:List (Addr×Obj)} {σ:St} {H:Hp} {s:Shared} {A:Around} (I:Inv X pins σ H s) (h1:A.units+k1.d < cLine) (h2:A.units+k2.d < cLine) (h3:A.units+k3.d < cLine) {x y z x' y' z':V} {us ws:List Value} {a b:α×β×γ}
  (rx:cU [x,y,z] us) (ry:cU [x',y',z'] ws) (a1:k1.R X.K H x a.1) (a2:k2.R X.K H y a.2.1) (a3:k3.R X.K H z a.2.2) (b1:k1.R X.K H x' b.1) (b2:k2.R X.K H y' b.2.1) (b3:k3.R X.K H z' b.2.2) :
  ∀j (h1:j < us.toArray.size) (h2:j < ws.toArray.size),SeqAt.EqAt A s us.toArray[j] ws.toArray[j] (e3 a b j):=λj l1 l2=>by
 obtain ⟨u1,u2,u3,rfl,r1,r2,r3⟩:=vals3 rx;obtain ⟨w1,w2,w3,rfl,q1,q2,q3⟩:=vals3 ry;have hj:j < 3:=by simpa using l1
 rcases (show j=0\/j=1\/j=2 by lia) with rfl | rfl | rfl
 ·exact k1.eq (A:=A) I r1 q1 a1 b1 h1
 ·exact k2.eq (A:=A) I r2 q2 a2 b2 h2
 ·exact k3.eq (A:=A) I r3 q3 a3 b3 h3
theorem zA {a b:α×β×γ}:(List.range 3).all (e3 a b)=decide (a=b):=by
 have e:List.range 3=[0,1,2]:=rfl;rw[e];simp only[Q0,List.all_nil,Bool.and_true];show (decide (a.1=b.1) && (decide (a.2.1=b.2.1) && decide (a.2.2=b.2.2)))=_
 rw[<- Bool.decide_and,<- Bool.decide_and];exact decide_eq_decide.mpr ⟨λ⟨h1,h2,h3⟩=>Prod.ext h1 (Prod.ext h2 h3),λh=>by rw[h];exact ⟨rfl,rfl,rfl⟩⟩
def OV:Kind (α×β×γ) where
 R:=λK H x a=>∃p u v w,x=.ref p/\lA K H p [u,v,w]/\k1.R K H u a.1/\k2.R K H v a.2.1/\k3.R K H w a.2.2
 d:=max k1.d (max k2.d k3.d)+1
 inj:=λ{X pins σ H s x a b} I h1 h2=>by
  obtain ⟨p,u,v,w,rfl,hp,a1,a2,a3⟩:=h1;obtain ⟨q,u',v',w',e,hq,b1,b2,b3⟩:=h2;cases e;have e:=I.tuple_inj hp hq;cases e;exact Prod.ext (k1.inj I a1 b1) (Prod.ext (k2.inj I a2 b2) (k3.inj I a3 b3))
 rc:=λ{X pins σ H s x y v u a b A} I rx ry h1 h2 hA=>by
  obtain ⟨p,x1,x2,x3,rfl,hp,a1,a2,a3⟩:=h1;obtain ⟨q,y1,y2,y3,rfl,hq,b1,b2,b3⟩:=h2;cases rx;cases ry;obtain ⟨us,r1,t1,_⟩:=I.tuple hp;obtain ⟨ws,r2,t2,_⟩:=I.tuple hq;have l1:=r1.length;have l2:=r2.length;have z:=SeqAt.RcAt.tuples (A:=A) (e:=e3 a b) (show s.heap.IsTuple p us.toArray from t1) (show s.heap.IsTuple q ws.toArray from t2) (by lia) (uS k1 k2 k3 (A:=A.in1) I (by show A.units+1+k1.d < cLine;lia) (by show A.units+1+k2.d < cLine;lia) (by show A.units+1+k3.d < cLine;lia) r1 r2 a1 a2 a3 b1 b2 b3);have e1:us.toArray.size=3:=by rw[aL,<- l1];rfl
  have e2:ws.toArray.size=3:=by rw[aL,<- l2];rfl
  rw[e1,e2,JN,zA] at z;simpa using z
 ne:=λ{X pins σ H s x y v u a b A} I rx ry h1 h2 hA=>by
  obtain ⟨p,x1,x2,x3,rfl,hp,a1,a2,a3⟩:=h1;obtain ⟨q,y1,y2,y3,rfl,hq,b1,b2,b3⟩:=h2;cases rx;cases ry;obtain ⟨us,r1,t1,_⟩:=I.tuple hp;obtain ⟨ws,r2,t2,_⟩:=I.tuple hq;have l1:=r1.length;have l2:=r2.length;have z:=SeqAt.RcNeAt.tuples (A:=A) (e:=e3 a b) (show s.heap.IsTuple p us.toArray from t1) (show s.heap.IsTuple q ws.toArray from t2) (by lia) (uS k1 k2 k3 (A:=A.in1) I (by show A.units+1+k1.d < cLine;lia) (by show A.units+1+k2.d < cLine;lia) (by show A.units+1+k3.d < cLine;lia) r1 r2 a1 a2 a3 b1 b2 b3);have e1:us.toArray.size=3:=by rw[aL,<- l1];rfl
  have e2:ws.toArray.size=3:=by rw[aL,<- l2];rfl
  rw[e1,e2,JN,zA] at z;simpa using z
 eq:=λ{X pins σ H s x y v u a b A} I rx ry h1 h2 hA=>by
  obtain ⟨p,x1,x2,x3,rfl,hp,a1,a2,a3⟩:=h1;obtain ⟨q,y1,y2,y3,rfl,hq,b1,b2,b3⟩:=h2;cases rx;cases ry;by_cases e:p=q
  ·subst e;have e:=I.tuple_inj hp hq;cases e;have e2:a=b:=Prod.ext (k1.inj I a1 b1) (Prod.ext (k2.inj I a2 b2) (k3.inj I a3 b3));rw[decide_eq_true e2];exact SeqAt.EqAt.same _
  ·obtain ⟨us,r1,t1,_⟩:=I.tuple hp;obtain ⟨ws,r2,t2,_⟩:=I.tuple hq;have l1:=r1.length;have l2:=r2.length;have z:=SeqAt.RcAt.tuples (A:=A) (e:=e3 a b) (show s.heap.IsTuple p us.toArray from t1) (show s.heap.IsTuple q ws.toArray from t2) (by lia) (uS k1 k2 k3 (A:=A.in1) I (by show A.units+1+k1.d < cLine;lia) (by show A.units+1+k2.d < cLine;lia) (by show A.units+1+k3.d < cLine;lia) r1 r2 a1 a2 a3 b1 b2 b3);have e1:us.toArray.size=3:=by rw[aL,<- l1];rfl
   have e2:ws.toArray.size=3:=by rw[aL,<- l2];rfl
   rw[e1,e2,JN,zA] at z;exact .of_refs e (by simpa using z)
end
theorem Na {n a1 a2 c T u b g:Nat} (hu:u<=T) (h:ZS n a1 a2 c T b g):ZS n a1 a2 c u (b+a1*(T - u)) (g+c*(T - u)):=by
 obtain ⟨k,rfl⟩:∃k,T=u+k:=⟨T - u,by lia⟩;rw[show u+k - u=k by lia];have e1:a1*(u+k)=a1*u+a1*k:=dn ..;have e2:c*(u+k)=c*u+c*k:=dn ..;have e3:a1*(u+1)<=a1*(u+k+1):=aF _ (by lia);have e4:c*(u+1)<=c*(u+k+1):=aF _ (by lia);have e5:c*(u+2)<=c*(u+k+2):=aF _ (by lia);have z1:ze a1 a2 u (b+a1*k)=ze a1 a2 (u+k) b:=by unfold ze;lia
 have z2:zu a1 a2 c u (b+a1*k) (g+c*k)=zu a1 a2 c (u+k) b g:=by unfold zu;rw[z1];lia
 obtain ⟨h1,h2,h3,h4,h5,h6,h7⟩:=h;unfold ZS;rw[z1,z2];exact ⟨h1,by lia,h3,h4,by lia,h6,by lia⟩
theorem Nb {n a1 a2 c T u b g:Nat} (hu:u<=T) (h:ZP n a1 a2 c T b g):ZP n a1 a2 c u (b+a1*(T - u)) (g+c*(T - u)):=by
 obtain ⟨k,rfl⟩:∃k,T=u+k:=⟨T - u,by lia⟩;rw[show u+k - u=k by lia];have e1:a1*(u+k)=a1*u+a1*k:=dn ..;have e2:c*(u+k)=c*u+c*k:=dn ..;have e4:c*(u+1)<=c*(u+k+1):=aF _ (by lia);have z1:ze a1 a2 u (b+a1*k)=ze a1 a2 (u+k) b:=by unfold ze;lia
 have z2:zu a1 a2 c u (b+a1*k) (g+c*k)=zu a1 a2 c (u+k) b g:=by unfold zu;rw[z1];lia
 obtain ⟨h1,h2⟩:=h;unfold ZP;rw[z2];exact ⟨h1,by lia⟩
def QV (mv pt:LR9) (st go:List Rat) (u:Nat) (A:LR9->Prop) (B:List Rat->Prop):Prop:=∃D W0 E W1,CtF mv pt u st go D W0 E W1 /\
 (∀(pus:LR9) (q:Nat),pus.length=u->(∀xs∈pus,xs.length=pt.length)->sP mv pt st pus u=go->OF mv pt u (gF mv u st go) pus->0 < q->q<=(16*W0)^mv.length->(∀xs∈pus,∀x∈xs,Tp (E*q) (D*(mv.length*(W1*(16*W0)^mv.length))) x)->A pus) /\
 (∀(pr:List Rat) (q:Nat),pr.length=mv.length->(∀xs∈kry mv pt u,eC xs pr=0)->eC pr (gF mv u st go)=1->QM mv pt u (gF mv u st go) pr->0 < q->q<=(16*W0)^mv.length*(16*(W1+E))->(∀y∈pr,Tp q ((16*W0)^mv.length*(16*(W1+E))) y)->B pr)
def O5 (mv pt:LR9) (st go:List Rat) (u:Nat) (pus:LR9):Prop:=pus.length=u/\(∀xs∈pus,xs.length=pt.length)/\sP mv pt st pus u=go/\OF mv pt u (gF mv u st go) pus/\KL mv pt pus st
def OB (mv pt:LR9) (st go:List Rat) (u:Nat) (pr:List Rat):Prop:=pr.length=mv.length/\(∀xs∈kry mv pt u,eC xs pr=0)/\eC pr (gF mv u st go)=1/\QM mv pt u (gF mv u st go) pr/\Tb mv pt u st go pr
section
variable {mv pt lk:LR9} {st go:List Rat} {M1 M2 V a1 a2 c B b g T u w b1 b2:Nat}
theorem Bd.soo (X:Bd mv pt M1 M2 V a1 a2 c) (D:fM mv pt lk) (ls:st.length=mv.length) (b0:0 < B) (b1:B<=2^b) (hs:∀x∈st,Fr B (2^g) x) (hg:∀x∈go,Fr (M1^T*(M2*B)) (2^(c*T+g)) x) (Z:ZS mv.length a1 a2 c T b g) (P:ZP mv.length a1 a2 c T b g) (hu:u<=T):QV mv pt st go u (O5 mv pt st go u) (OB mv pt st go u):=by
 have b0':0 < M1^(T - u)*B:=bU (dO X.m1) b0;have b1':M1^(T - u)*B<=2^(b+a1*(T - u)):=by rw[xg];exact iG X.b1 b1
 have hs':∀x∈st,Fr (M1^(T - u)*B) (2^(g+c*(T - u))) x:=λx hx=>((hs x hx).scaleL _).mono (au (by decide) (by lia))
 have e1:M1^u*(M2*(M1^(T - u)*B))=M1^T*(M2*B):=by
  rw[Nat.mul_left_comm M2,<- cy,<- bo,show u+(T - u)=T by lia]
 have e2:c*u+(g+c*(T - u))=c*T+g:=by
  have:c*u+c*(T - u)=c*T:=by rw[<- dn,show u+(T - u)=T by lia]
  lia
 have hg':∀x∈go,Fr (M1^u*(M2*(M1^(T - u)*B))) (2^(c*u+(g+c*(T - u)))) x:=by rw[e1,e2];exact hg
 have Z':=Na hu Z;have P':=Nb hu P;have ct:=X.ctf D ls b0' b1' hs' hg' Z';refine ⟨_,_,_,_,ct,λpus q l w s cp q0 q1 tp=>⟨l,w,s,cp,ct.en pus q q0 q1 l tp⟩,λpr q l k d cn q0 q1 tp=>⟨l,k,d,cn,(X.prf D ls b0' b1' hs' hg' Z' P' q0 q1 tp).1⟩⟩
def SH (mv pt:LR9) (M1 M2 c b1 T:Nat) (st go:List Rat):Prop:=∃B,0 < B/\B<=2^b1/\(∀x∈st,Fr B (2^22) x)/\∀x∈go,Fr (M1^T*(M2*B)) (2^(c*T+23)) x
theorem SH.soo (h:SH mv pt M1 M2 c b1 T st go) (U:Us mv pt w T M1 M2 V a1 a2 c b1 b2) (D:fM mv pt lk) (ls:st.length=mv.length) (hu:u<=T):QV mv pt st go u (O5 mv pt st go u) (OB mv pt st go u):=by
 obtain ⟨B,h0,h1,f1,fg⟩:=h;exact U.bd.soo D ls h0 h1 (Qi f1) fg U.z1 U.zp hu
theorem Us.gob (U:Us mv pt w T M1 M2 V a1 a2 c b1 b2) (D:fM mv pt lk) (ls:st.length=mv.length) (lg:go.length=mv.length) (hs:∀x∈st,Dr (max w 6) x) {T':Nat} (hT:T'<=T) (hg:GoP mv pt T' w st go):SH mv pt M1 M2 c b1 T st go:=by
 have up:2^(c*T+22)+1<=2^(c*T+23):=by
  rw[show c*T+23=1+(c*T+22) by lia,bo 2 1];have:0 < 2^(c*T+22):=dO (by decide)
  lia
 rcases hg with hg | ⟨pus,hp,hg⟩
 ·obtain ⟨B,h0,h6,h,h1,_⟩:=U.dr (st++go) λx hx=>(ay.mp hx).elim (hs x) (hg x)
  exact ⟨B,h0,h1 (by rw[av,ls,lg];lia),λx hx=>h x (d9 _ hx),λx hx=>Fr.up (h x (bG _ hx)) (gD (df _ _) (df _ _)) (au (by decide) (by lia))⟩
 ·obtain ⟨B,h0,h6,h,h1,_⟩:=U.dr (st++pus.flatten) λx hx=>by
   rcases ay.mp hx with hx | hx
   ·exact hs x hx
   ·obtain ⟨xs,m1,m2⟩:=ju.mp hx;exact (hp.2 xs m1).2 x m2
  have hm:T'*pt.length<=T*pt.length:=aA _ hT
  have h1:=h1 (by
   rw[av,wA λxs hx=>(hp.2 xs hx).1,hp.1,ls]
   lia)
  have f1:∀x∈st,Fr B (2^22) x:=λx hx=>h x (d9 _ hx)
  have f2:∀xs∈pus,∀x∈xs,Fr B (2^22) x:=λxs hx x hx'=>h x (bG _ (ju.mpr ⟨xs,hx,hx'⟩))
  have fe0:=(U.bd.end D ls hp.1 (λxs hx=>(hp.2 xs hx).1) h0 h1 f1 f2 (mh (ak _) hT (ak _) (Q2 U.z1))).2 T' (ak _);have fe:∀x∈sP mv pt st pus T',Fr (M1^T*(M2*B)) (2^(c*T+22)) x:=λx hx=>Fr.up (fe0 x hx) (CK (MY _ hT) _) (au (by decide) (Nat.add_le_add_right (aF _ hT) _))
  refine ⟨B,h0,h1,f1,λx hx=>?_⟩;rcases hg with rfl | ⟨a,v,v3,rfl⟩
  ·exact (fe x hx).mono (by lia)
  ·rcases cm hx with hx | rfl
   ·exact (fe x hx).mono (by lia)
   ·have u1:Fr (M1^T*(M2*B)) 1 (Nf v):=(OG v3).dvd (gD h6 (gD (df _ _) (df _ _)))
    have u2:Fr (M1^T*(M2*B)) (2^(c*T+22)) ((sP mv pt st pus T').getD a 0):=by
     rw[ae];cases h:(sP mv pt st pus T')[a]? with
     | none=>exact Fr.zero
     | some y=>exact fe y (aw h)
    exact (u2.add u1).mono up
theorem Us.enf (U:Us mv pt w T M1 M2 V a1 a2 c b1 b2) (D:fM mv pt lk) (ls:st.length=mv.length) (hs:∀x∈st,Dr (max w 6) x) {T':Nat} (hT:T'<=T) {pus:LR9} (hp:SI pt T' w pus):KL mv pt pus st:=by
 obtain ⟨B,h0,h6,h,h1,_⟩:=U.dr (st++pus.flatten) λx hx=>by
  rcases ay.mp hx with hx | hx
  ·exact hs x hx
  ·obtain ⟨xs,m1,m2⟩:=ju.mp hx;exact (hp.2 xs m1).2 x m2
 have hm:T'*pt.length<=T*pt.length:=aA _ hT
 have h1:=h1 (by
  rw[av,wA λxs hx=>(hp.2 xs hx).1,hp.1,ls]
  lia)
 exact (U.bd.end D ls hp.1 (λxs hx=>(hp.2 xs hx).1) h0 h1 (λx hx=>h x (d9 _ hx)) (λxs hx x hx'=>h x (bG _ (ju.mpr ⟨xs,hx,hx'⟩))) (mh (ak _) hT (ak _) (Q2 U.z1))).1
end
theorem CB.kp {K:FG9} {S:Addr->Prop} {H0 H H':Hp} {d:Ed} {x:V} (h:CB K H0 H d x) (k:Kp S H H') (n:∀a,H0 a=none->¬S a):CB K H0 H' d x:=by
 cases d with
 | fl v=>exact h
 | row qs=>obtain ⟨p,a,b,c⟩:=h;exact ⟨p,a,b,k.row (n p b) c⟩
 | grid rs =>
  obtain ⟨p,a,b,us,c,d,e⟩:=h;exact ⟨p,a,b,us,k _ _ c (.inl (n p b)),Paired.imp' (λ_ _ ⟨q,a,b,c⟩=>⟨q,a,b,k.row (n q b) c⟩) d,e⟩
theorem CB.upto {K:FG9} {H0 H H':Hp} {d:Ed} {x:V} {b:Addr} (h:CB K H0 H d x) (u:cV b H H') (B:iC H b) (nb:H0 b≠none):CB K H0 H' d x:=by
 cases d with
 | fl v=>exact h
 | row qs=>obtain ⟨p,a,e,c⟩:=h;exact ⟨p,a,e,c.upto u B λz=>nb (by rw[<- z];exact e)⟩
 | grid rs=>obtain ⟨p,a,e,c⟩:=h;exact ⟨p,a,e,c.upto u B (λz=>nb (by rw[<- z];exact e)) nb⟩
def SD (mv pt:LR9) (st go:List Rat) (T:Nat) (kv:V) (pus prs:LR9):Prop:=(∀j pr,prs[j]?=some pr->OB mv pt st go j pr)/\((∃k:Nat,kv=.int k/\k<=T/\prs.length=k/\O5 mv pt st go k pus)\/(kv=.non/\pus=[]/\prs.length=T+1))
theorem SD.uniq {mv pt pus prs pus' prs':LR9} {st go:List Rat} {T:Nat} {kv kv':V} (h:SD mv pt st go T kv pus prs) (h':SD mv pt st go T kv' pus' prs'):kv=kv'/\pus=pus'/\prs=prs':=by
 obtain ⟨hp,h⟩:=h;obtain ⟨hp',h'⟩:=h'
 have key:∀{n k:Nat} {A:LR9} {B:LR9},(∀j pr,A[j]?=some pr->OB mv pt st go j pr)->A.length=n->k < n->O5 mv pt st go k B->False:=λ{n k A B} hA l hk s=>by
  obtain ⟨_,_,_,cn,_⟩:=hA k A[k] (af (by lia));exact s.2.2.2.1.not cn
 have el:prs.length=prs'.length:=by
  rcases h with ⟨k,_,k1,l,s⟩ | ⟨_,_,l⟩
  ·rcases h' with ⟨k',_,k1',l',s'⟩ | ⟨_,_,l'⟩
   ·rcases lh k k' with z | z | z
    ·exact (key hp' l' z s).elim
    ·lia
    ·exact (key hp l z s').elim
   ·exact (key hp' l' (by lia) s).elim
  ·rcases h' with ⟨k',_,k1',l',s'⟩ | ⟨_,_,l'⟩
   ·exact (key hp l (by lia) s').elim
   ·lia
 have ep:prs=prs':=ee el λi h1 h2=>by
  obtain ⟨_,_,_,c1,_⟩:=hp i _ (af h1);obtain ⟨_,_,_,c2,_⟩:=hp' i _ (af h2);exact c1.uniq c2
 rcases h with ⟨k,e,k1,l,s⟩ | ⟨e,e2,l⟩
 ·rcases h' with ⟨k',e',k1',l',s'⟩ | ⟨_,_,l'⟩
  ·have:k=k':=by lia
   subst this;exact ⟨by rw[e,e'],s.2.2.2.1.uniq s'.2.2.2.1,ep⟩
  ·lia
 ·rcases h' with ⟨k',e',k1',l',s'⟩ | ⟨e',e2',l'⟩
  ·lia
  ·exact ⟨by rw[e,e'],by rw[e2,e2'],ep⟩
inductive FG (K:FG9) (C:Addr) (vs:List V) (H:Hp) (Q:VK) (E9:XK):Prop
 | mk (x s g:Addr) (T a c:Nat) (H0:Hp) (mv pt lk:LR9) (st go:List Rat):vs=[.ref x,.ref s,.ref g,.int T]->T<=98->nX K H0 H C x mv pt lk->fM mv pt lk->KI mv pt lk->uN mv pt a c->cw K H s st->st.length=mv.length->cw K H g go->go.length=mv.length->(∀u,u<=T->QV mv pt st go u (O5 mv pt st go u) (OB mv pt st go u))->(∀kv t p r pus prs Hm H',H' t=some (.tup [kv,.ref p,.ref r])->aE H Hm->aE Hm H'->H r=none->bP K H Hm r prs->Hm p=none->bP K Hm H' p pus->SD mv pt st go T kv pus prs->Q (.ref t) H')->FG K C vs H Q E9
inductive Bs (K:FG9) (C:Addr) (vs:List V) (H:Hp) (Q:VK) (E9:XK):Prop
 | mk (x r s g:Addr) (T a c:Nat) (H0 H1:Hp) (mv pt lk:LR9) (st go:List Rat):vs=[.ref x,.ref r,.ref s,.ref g,.int T]->T<=12->nX K H0 H C x mv pt lk->eO K H1 H r mv pt lk->fM mv pt lk->KI mv pt lk->uN mv pt a c->cw K H s st->st.length=mv.length->cw K H g go->go.length=mv.length->(∀u,u<=T->QV mv pt st go u (O5 mv pt st go u) (OB mv pt st go u))->(∀H',aE H H'->Q (.bl true) H')->Bs K C vs H Q E9
end L2
open L2
local macro_rules | `(tactic| walk_at "hl") => `(tactic| first | (show _ ≤ sizeLine; with_unfolding_all decide) | (with_unfolding_all exact (by decide)))
local macro_rules | `(tactic| walk_at "sq") => `(tactic| first | with_reducible assumption | with_reducible exact lA.of (by assumption) | with_reducible exact bS.of (by assumption) | with_reducible exact lA.of aK | with_reducible exact bS.of aK | assumption)
local macro_rules | `(tactic| walk_at "sc") => `(tactic| first | (with_reducible show (0 : Int) < _; decide) | with_reducible exact JD (by decide) (by decide) | with_reducible exact E8 (by decide) (by decide) | with_reducible exact cpow_of (by decide) (by decide) (by decide))
local macro_rules | `(tactic| walk_at "rd") => `(tactic| first
  | with_reducible refine PC ?_
  | with_reducible refine NF ?_
  | with_reducible refine P0 ?_
  | with_reducible refine Ly ?_
  | ((with_reducible refine' Py ?hx1 ?_); (case hx1 => with_unfolding_all rfl))
  | with_reducible refine SS ?_
  | with_reducible refine RH ?_
  | with_reducible refine RK ?_
  | with_reducible refine RB ?_
  | with_reducible refine SU ?_
  | with_reducible refine PZ ?_
  | with_reducible refine PL ?_
  | with_reducible refine PY ?_
  | with_reducible refine rd_neS ?_
  | with_reducible refine rd_eqB ?_
  | with_reducible refine rd_neB ?_
  | with_reducible refine NI ?_
  | with_reducible refine HP ?_
  | with_reducible refine PX ?_
  | with_reducible refine NB ?_
  | with_reducible refine NG ?_
  | with_reducible refine NH ?_
  | with_reducible refine Lx ?_
  | with_reducible refine NA ?_
  | with_reducible refine RC ?_
  | with_reducible refine PD ?_
  | with_reducible refine rd_retN ?_
  | with_reducible refine PR ?_
  | with_reducible refine P6 ?_
  | with_reducible refine RE ?_
  | with_reducible refine PJ ?_
  | with_reducible refine NU ?_
  | with_reducible refine rd_orV ?_
  | with_reducible refine ND ?_
  | with_reducible refine PU ?_
  | with_reducible refine Px ?_
  | with_reducible refine Ku ?_
  | with_reducible refine RV ?_
  | with_reducible refine RW ?_
  | with_reducible refine RX ?_
  | with_reducible refine OQ ?_
  | with_reducible refine PK ?_
  | with_reducible refine NQ ?_
  | with_reducible refine Pz ?_
  | with_reducible refine PM ?_
  | with_reducible refine NS ?_
  | with_reducible refine RI ?_
  | with_reducible refine NP ?_
  | with_reducible refine PH ?_
  | with_reducible refine NT ?_
  | ((with_reducible refine' rd_aug ?hx1 ?_); (case hx1 => with_unfolding_all rfl))
  | with_reducible refine PN ?_
  | with_reducible refine NL ?_
  | with_reducible refine Lz ?_
  | with_reducible refine NM ?_
  | with_reducible refine RD ?_
  | with_reducible refine J8 ?_
  | with_reducible refine NC ?_
  | with_reducible refine PV ?_
  | with_reducible refine Lv ?_
  | with_reducible refine NJ ?_
  | with_reducible refine Lu ?_
  | with_reducible refine Ls ?_
  | ((with_reducible refine' NR ?hx1 ?_); (case hx1 => with_unfolding_all rfl))
  | with_reducible refine Nz ?_
  | with_reducible refine RJ ?_
  | with_reducible refine rd_bm0 ?_
  | with_reducible refine rd_brk ?_
  | ((with_reducible refine' NK ?hx1 ?hx2 ?_); (case hx1 => walk_at "sq"); (case hx2 => with_unfolding_all rfl))
  | with_reducible refine rd_cont ?_
  | ((with_reducible refine' gL ?hx1 ?_); (case hx1 => walk_at "sc"))
  | ((with_reducible refine' HQ ?hx1 ?hx2 ?_); (case hx1 => walk_at "sq"); (case hx2 => with_unfolding_all rfl))
  | ((with_reducible refine' cJ ?hx1 ?hx2 ?_); (case hx1 => walk_at "sq"); (case hx2 => with_unfolding_all rfl))
  | ((with_reducible refine' NO ?hx1 ?hx2 ?_); (case hx1 => walk_at "sq"); (case hx2 => with_unfolding_all rfl))
  | ((with_reducible refine' fu ?hx1 ?hx2 ?hx3 ?_); (case hx1 => with_reducible first | assumption | exact aK); (case hx2 => with_unfolding_all rfl); (case hx3 => with_unfolding_all rfl))
  | with_reducible refine ⟨_, rfl, ?_⟩
  | with_reducible refine ⟨_, _, rfl, ?_⟩)
local macro_rules | `(tactic| walk_at "w") => `(tactic| repeat walk_at "rd")
local macro_rules | `(tactic| walk_at "d") => `(tactic| exact ⟨rfl,rfl,rfl,by decide +kernel,rfl,by decide +kernel,by decide +kernel⟩)
namespace Lw
open PySem PySem.Spec PyProof.Rows L2 Nm
set_option maxHeartbeats 4000000
def top (i:Nat):Stmt:=PySem.Challenge.pw_helmsum_k45_soonest.main.body.getD i (.Pass ⟨0,0,0,0⟩)
abbrev lO:Stmt:=top 56
abbrev jU:Stmt:=top 57
abbrev gK:Stmt:=top 72
abbrev j5:Stmt:=top 74
abbrev lK:Stmt:=top 58
abbrev lH:Stmt:=top 59
abbrev jX:Stmt:=top 65
abbrev jW:Stmt:=top 61
abbrev pA:Stmt:=top 67
abbrev iX:Stmt:=top 69
abbrev e8:Stmt:=top 75
abbrev h8:Stmt:=top 62
abbrev lJ:Stmt:=top 63
abbrev jZ:Stmt:=top 68
abbrev iW:Stmt:=top 70
abbrev hJ:Stmt:=top 76
abbrev jP:Stmt:=top 52
abbrev lG:Stmt:=top 9
abbrev eY:Stmt:=top 10
abbrev jS:Stmt:=top 12
abbrev rZ:Stmt:=top 16
abbrev gZ:Stmt:=top 53
abbrev eJ:Stmt:=inClass (top 54) 0
abbrev ia:Stmt:=top 71
abbrev j4:Stmt:=top 77
abbrev iT:Stmt:=top 78
abbrev lN:Stmt:=top 64
abbrev pz:Stmt:=top 73
abbrev jY:Stmt:=top 80
abbrev lM:Stmt:=top 81
abbrev jV:Stmt:=top 79
abbrev j8:Stmt:=top 89
abbrev jQ:Stmt:=top 19
abbrev eI:Stmt:=top 11
abbrev fA:Stmt:=top 18
abbrev iQ:Stmt:=top 30
abbrev ph:Stmt:=top 32
abbrev iS:Stmt:=top 31
abbrev vZ:Stmt:=top 33
abbrev rY:Stmt:=top 13
abbrev o8:Stmt:=top 34
abbrev o7:Stmt:=top 20
abbrev pe:Stmt:=top 23
abbrev iP:Stmt:=top 40
abbrev gW:Stmt:=top 42
abbrev zL:Stmt:=top 25
abbrev jT:Stmt:=top 41
abbrev iO:Stmt:=top 21
abbrev rX:Stmt:=top 36
abbrev gY:Stmt:=top 24
abbrev v5:Stmt:=top 37
abbrev gV:Stmt:=top 38
abbrev v7:Stmt:=top 14
abbrev jR:Stmt:=top 17
abbrev fV:Stmt:=inClass (top 54) 1
abbrev sk:Stmt:=top 28
abbrev gX:Stmt:=top 43
abbrev o9:Stmt:=top 44
abbrev DC:Stmt:=top 26
abbrev zM:Stmt:=top 45
abbrev o6:Stmt:=top 47
abbrev j7:Stmt:=top 90
abbrev iU:Stmt:=top 91
abbrev fb:Stmt:=top 82
abbrev h9:Stmt:=top 83
abbrev fU:Stmt:=top 84
abbrev iZ:Stmt:=top 87
abbrev i8:Stmt:=top 85
abbrev j6:Stmt:=top 60
abbrev iY:Stmt:=top 66
abbrev i5:Stmt:=top 86
abbrev hZ:Stmt:=top 88
abbrev iV:Stmt:=top 92
abbrev DB:Stmt:=top 93
set_option genInjectivity false in
set_option genSizeOf false in
structure Ads where
 uf:Addr
 tL:FuncData
 qU:Addr
 qo:FuncData
 oO:Addr
 oy:FuncData
 rg:Addr
 qF:FuncData
 t8:Addr
 tI:FuncData
 tY:Addr
 tG:FuncData
 qX:Addr
 qB:FuncData
 qW:Addr
 qA:FuncData
 w5:Addr
 wJ:FuncData
 oR:Addr
 oB:FuncData
 jl:Addr
 jf:FuncData
 mY:Addr
 mK:FuncData
 tZ:Addr
 tH:FuncData
 qZ:Addr
 qD:FuncData
 oQ:Addr
 oA:FuncData
 mW:Addr
 mI:FuncData
 qP:Addr
 p9:FuncData
 tW:Addr
 tF:FuncData
 jk:Addr
 je:FuncData
 qS:Addr
 qh:FuncData
 zh:Addr
 yQ:FuncData
 mV:Addr
 mH:FuncData
 ir:Addr
 ip:FuncData
 nh:Addr
 mM:FuncData
 rf:Addr
 qE:FuncData
 oN:Addr
 ox:FuncData
 ue:Addr
 tK:FuncData
 wZ:Addr
 wI:FuncData
 qY:Addr
 qC:FuncData
 uc:Addr
 tJ:FuncData
 qV:Addr
 qq:FuncData
 rj:Addr
 qH:FuncData
 qQ:Addr
 qe:FuncData
 iq:Addr
 il:FuncData
 jF:Addr
 jD:FuncData
 oK:Addr
 ou:FuncData
 wY:Addr
 wH:FuncData
 oM:Addr
 ow:FuncData
 A7:Addr
 A4:FuncData
 zg:Addr
 yP:FuncData
 wV:Addr
 wD:FuncData
 wU:Addr
 wC:FuncData
 wX:Addr
 wG:FuncData
 oJ:Addr
 oq:FuncData
 mS:Addr
 mE:FuncData
 Fh:Addr
 E5:FuncData
 qT:Addr
 qi:FuncData
 oI:Addr
 oo:FuncData
 zf:Addr
 yO:FuncData
 mU:Addr
 mG:FuncData
 A8:Addr
 A5:FuncData
 mR:Addr
 mD:FuncData
 A9:Addr
 A6:FuncData
 qR:Addr
 qg:FuncData
 kT:Addr
 kQ:FuncData
 zi:Addr
 yR:FuncData
 mT:Addr
 mF:FuncData
 wW:Addr
 wF:FuncData
 JJ:Addr
 JC:FuncData
 Fi:Addr
 E6:FuncData
 wQ:Addr
 wB:FuncData
 nM:Addr
 nH:FuncData
 kR:Addr
 kN:FuncData
 jm:Addr
 jg:FuncData
 mZ:Addr
 mL:FuncData
 kS:Addr
 kO:FuncData
 oT:Addr
 oE:FuncData
 oV:Addr
 oG:FuncData
 rh:Addr
 qG:FuncData
 oS:Addr
 oC:FuncData
 oU:Addr
 oF:FuncData
 mX:Addr
 mJ:FuncData
 oP:Addr
 oz:FuncData
 MO:Addr
 MB:FuncData
 a_NOUGHT:Addr
 a_ONE:Addr
 t_MOST_STATES:Tok
 t_MOST_PUTS:Tok
 t_MOST_LOOKS:Tok
 a_System:Addr
structure Txt (K:W.Frag) (mg:Str->Option Value) (Z:Ads):Prop where
 Am:mg "_law_bag"=some (.ref Z.uf)
 Cw:Binds K Z.tL ["_law_script"] []
 yg:gM K "_law_bag" "_law_bag" lO Z.uf Z.tL
 aQ:mg "_law_take"=some (.ref Z.qU)
 be:Binds K Z.qo ["_law_bag_here","_law_many"] []
 aX:gM K "_law_take" "_law_take" jU Z.qU Z.qo
 xx:mg "_law_sizes"=some (.ref Z.oO)
 yX:Binds K Z.oy ["_law_bag_here"] []
 ur:gM K "_law_sizes" "_law_sizes" gK Z.oO Z.oy
 oi:mg "_law_line"=some (.ref Z.rg)
 qM:Binds K Z.qF ["_law_bag_here","_law_n"] []
 nP:gM K "_law_line" "_law_line" j5 Z.rg Z.qF
 iH:mg "_law_low"=some (.ref Z.t8)
 jN:Binds K Z.tI ["_law_top","_law_bottom"] []
 iL:gM K "_law_low" "_law_low" lK Z.t8 Z.tI
 ke:mg "_law_sum"=some (.ref Z.tY)
 lY:Binds K Z.tG ["_law_one","_law_other"] []
 jO:gM K "_law_sum" "_law_sum" lH Z.tY Z.tG
 tq:mg "_law_plus"=some (.ref Z.qX)
 vK:Binds K Z.qB ["_law_one","_law_other"] []
 rk:gM K "_law_plus" "_law_plus" jX Z.qX Z.qB
 kL:mg "_law_prod"=some (.ref Z.qW)
 nJ:Binds K Z.qA ["_law_one","_law_other"] []
 ki:gM K "_law_prod" "_law_prod" jW Z.qW Z.qA
 ya:mg "_law_by"=some (.ref Z.w5)
 z7:Binds K Z.wJ ["_law_by_here","_law_row_here"] []
 xc:gM K "_law_by" "_law_by" pA Z.w5 Z.wJ
 rK:mg "_law_mixed"=some (.ref Z.oR)
 tU:Binds K Z.oB ["_law_bag_here","_law_move_here","_law_put","_law_look"] []
 oX:gM K "_law_mixed" "_law_mixed" iX Z.oR Z.oB
 pZ:mg "_law_two_lines"=some (.ref Z.jl)
 sC:Binds K Z.jf ["_law_bag_here"] []
 ma:gM K "_law_two_lines" "_law_two_lines" e8 Z.jl Z.jf
 vA:mg "_law_number"=some (.ref Z.mY)
 xJ:Binds K Z.mK ["_law_bag_here","_law_wide"] []
 rT:gM K "_law_number" "_law_number" h8 Z.mY Z.mK
 gE:mg "_law_row"=some (.ref Z.tZ)
 iK:Binds K Z.tH ["_law_bag_here","_law_many","_law_wide"] []
 gN:gM K "_law_row" "_law_row" lJ Z.tZ Z.tH
 yD:mg "_law_move"=some (.ref Z.qZ)
 Aw:Binds K Z.qD ["_law_bag_here","_law_n","_law_way","_law_first","_law_wide"] []
 vU:gM K "_law_move" "_law_move" jZ Z.qZ Z.qD
 xA:mg "_law_parts"=some (.ref Z.oQ)
 yZ:Binds K Z.oA ["_law_bag_here","_law_n","_law_ins","_law_outs","_law_wide"] []
 uv:gM K "_law_parts" "_law_parts" iW Z.oQ Z.oA
 vw:mg "_law_system"=some (.ref Z.mW)
 xH:Binds K Z.mI ["_law_bag_here"] []
 rR:gM K "_law_system" "_law_system" hJ Z.mW Z.mI
 og:mg "want_list"=some (.ref Z.qP)
 qJ:Binds K Z.p9 ["thing","at","most"] []
 nN:gM K "want_list" "want_list" jP Z.qP Z.p9
 vv:mg "is_whole"=some (.ref Z.tW)
 yd:Binds K Z.tF ["thing"] []
 ui:gM K "is_whole" "is_whole" lG Z.tW Z.tF
 ik:mg "common_divisor"=some (.ref Z.jk)
 ji:Binds K Z.je ["one","other"] []
 gh:gM K "common_divisor" "common_divisor" eY Z.jk Z.je
 yz:mg "is_number"=some (.ref Z.qS)
 Ar:Binds K Z.qh ["thing"] []
 vQ:gM K "is_number" "is_number" jS Z.qS Z.qh
 DI:mg "is_row"=some (.ref Z.zh)
 GY:Binds K Z.yQ ["thing","many"] []
 Cz:gM K "is_row" "is_row" rZ Z.zh Z.yQ
 kK:mg "copied_rows"=some (.ref Z.mV)
 mP:Binds K Z.mH ["things","wide"] []
 jz:gM K "copied_rows" "copied_rows" gZ Z.mV Z.mH
 qO:Binds K Z.ip ["self","move","put","look"] []
 rn:gM K "__init__" "System.__init__" eJ Z.ir Z.ip
 kM:mg "_law_copied"=some (.ref Z.nh)
 mQ:Binds K Z.mM ["_law_grid"] []
 jA:gM K "_law_copied" "_law_copied" ia Z.nh Z.mM
 yE:mg "_law_made"=some (.ref Z.rf)
 Ax:Binds K Z.qE ["_law_parts_here"] []
 vV:gM K "_law_made" "_law_made" j4 Z.rf Z.qE
 xv:mg "_law_steps"=some (.ref Z.oN)
 yW:Binds K Z.ox ["_law_bag_here","_law_parts_here"] []
 uq:gM K "_law_steps" "_law_steps" iT Z.oN Z.ox
 p6:mg "_law_dot"=some (.ref Z.ue)
 tV:Binds K Z.tK ["_law_one","_law_other"] []
 pR:gM K "_law_dot" "_law_dot" lN Z.ue Z.tK
 tu:mg "_law_on"=some (.ref Z.wZ)
 wN:Binds K Z.wI ["_law_grid","_law_row_here"] []
 sH:gM K "_law_on" "_law_on" pz Z.wZ Z.wI
 yC:mg "_law_next"=some (.ref Z.qY)
 Av:Binds K Z.qC ["_law_parts_here","_law_state","_law_puts_here"] []
 vT:gM K "_law_next" "_law_next" jY Z.qY Z.qC
 vB:mg "_law_end"=some (.ref Z.uc)
 ye:Binds K Z.tJ ["_law_parts_here","_law_start","_law_rows"] []
 uA:gM K "_law_end" "_law_end" lM Z.uc Z.tJ
 yB:mg "_law_puts"=some (.ref Z.qV)
 Au:Binds K Z.qq ["_law_bag_here","_law_parts_here","_law_steps_here","_law_wide"] []
 vS:gM K "_law_puts" "_law_puts" jV Z.qV Z.qq
 yG:mg "_law_goal"=some (.ref Z.rj)
 Az:Binds K Z.qH ["_law_bag_here","_law_parts_here","_law_start","_law_steps_here","_law_wide"] []
 vX:gM K "_law_goal" "_law_goal" j8 Z.rj Z.qH
 oh:mg "tops_over"=some (.ref Z.qQ)
 qK:Binds K Z.qe ["row","bottom"] []
 nO:gM K "tops_over" "tops_over" jQ Z.qQ Z.qe
 pO:mg "common_multiple"=some (.ref Z.iq)
 qL:Binds K Z.il ["wholes"] []
 kY:gM K "common_multiple" "common_multiple" eI Z.iq Z.il
 jd:mg "common_bottom"=some (.ref Z.jF)
 jE:Binds K Z.jD ["row"] []
 gQ:gM K "common_bottom" "common_bottom" fA Z.jF Z.jD
 xt:mg "first_with"=some (.ref Z.oK)
 yU:Binds K Z.ou ["lines","begin","place"] []
 uj:gM K "first_with" "first_with" iQ Z.oK Z.ou
 Cd:mg "cleared"=some (.ref Z.wY)
 D5:Binds K Z.wH ["lines","at","place","before"] []
 Af:gM K "cleared" "cleared" ph Z.wY Z.wH
 xu:mg "brought_up"=some (.ref Z.oM)
 yV:Binds K Z.ow ["lines","at","to"] []
 uo:gM K "brought_up" "brought_up" iS Z.oM Z.ow
 BZ:mg "swept"=some (.ref Z.A7)
 Fc:Binds K Z.A4 ["rows","wide"] []
 Be:gM K "swept" "swept" vZ Z.A7 Z.A4
 sv:mg "lowest"=some (.ref Z.zg)
 vJ:Binds K Z.yP ["top","bottom"] []
 sG:gM K "lowest" "lowest" rY Z.zg Z.yP
 Ca:mg "reduced"=some (.ref Z.wV)
 DZ:Binds K Z.wD ["rows","wide"] []
 Ac:gM K "reduced" "reduced" o8 Z.wV Z.wD
 xZ:mg "row_dot"=some (.ref Z.wU)
 z5:Binds K Z.wC ["one","other"] []
 xa:gM K "row_dot" "row_dot" o7 Z.wU Z.wC
 Cc:mg "grid_on"=some (.ref Z.wX)
 D4:Binds K Z.wG ["grid","row"] []
 Ae:gM K "grid_on" "grid_on" pe Z.wX Z.wG
 rH:mg "moved_rows"=some (.ref Z.oJ)
 tS:Binds K Z.oq ["system","rows"] []
 oW:gM K "moved_rows" "moved_rows" iP Z.oJ Z.oq
 vq:mg "reach_grown"=some (.ref Z.mS)
 xG:Binds K Z.mE ["system","steps"] []
 rQ:gM K "reach_grown" "reach_grown" gW Z.mS Z.mE
 Jk:mg "flat"=some (.ref Z.Fh)
 MK:Binds K Z.E5 ["lists"] []
 IH:gM K "flat" "flat" zL Z.Fh Z.E5
 yA:mg "additions"=some (.ref Z.qT)
 As:Binds K Z.qi ["system","steps"] []
 vR:gM K "additions" "additions" jT Z.qT Z.qi
 mC:mg "nought_row"=some (.ref Z.oI)
 oH:Binds K Z.oo ["many"] []
 kX:gM K "nought_row" "nought_row" iO Z.oI Z.oo
 zR:mg "solved"=some (.ref Z.zf)
 Cv:Binds K Z.yO ["rows","wide","due"] []
 zm:gM K "solved" "solved" rX Z.zf Z.yO
 kJ:mg "grid_turned"=some (.ref Z.mU)
 mO:Binds K Z.mG ["grid","wide"] []
 jy:gM K "grid_turned" "grid_turned" gY Z.mU Z.mG
 Gz:mg "solve"=some (.ref Z.A8)
 JG:Binds K Z.A5 ["rows","wide","due"] []
 Fo:gM K "solve" "solve" v5 Z.A8 Z.A5
 vo:mg "weights_for"=some (.ref Z.mR)
 xF:Binds K Z.mD ["rows","wide","row"] []
 rO:gM K "weights_for" "weights_for" gV Z.mR Z.mD
 GA:mg "minus"=some (.ref Z.A9)
 JH:Binds K Z.A6 ["one","other"] []
 Fp:gM K "minus" "minus" v7 Z.A9 Z.A6
 yy:mg "row_minus"=some (.ref Z.qR)
 Aq:Binds K Z.qg ["one","other"] []
 vP:gM K "row_minus" "row_minus" jR Z.qR Z.qg
 uH:QI K Z.a_System "moved" Z.kT
 vM:Binds K Z.kQ ["self","state","puts"] []
 vY:gM K "moved" "System.moved" fV Z.kT Z.kQ
 DJ:mg "course"=some (.ref Z.zi)
 G5:Binds K Z.yR ["system","start","puts"] []
 CA:gM K "course" "course" sk Z.zi Z.yR
 pN:mg "nothing_for"=some (.ref Z.mT)
 rM:Binds K Z.mF ["system","steps"] []
 ni:gM K "nothing_for" "nothing_for" gX Z.mT Z.mF
 Cb:mg "lacking"=some (.ref Z.wW)
 D3:Binds K Z.wF ["system","start","goal","steps"] []
 Ad:gM K "lacking" "lacking" o9 Z.wW Z.wF
 LV:mg "cut"=some (.ref Z.JJ)
 O4:Binds K Z.JC ["row","many","wide"] []
 MQ:gM K "cut" "cut" DC Z.JJ Z.JC
 Jl:mg "come"=some (.ref Z.Fi)
 ML:Binds K Z.E6 ["system","start","goal","steps"] []
 II:gM K "come" "come" zM Z.Fi Z.E6
 tm:mg "soonest"=some (.ref Z.wQ)
 wM:Binds K Z.wB ["system","start","goal","most"] []
 sF:gM K "soonest" "soonest" o6 Z.wQ Z.wB
 oj:mg "_law_kept"=some (.ref Z.nM)
 qN:Binds K Z.nH ["_law_thing"] []
 kj:gM K "_law_kept" "_law_kept" j7 Z.nM Z.nH
 rJ:mg "_law_spoil"=some (.ref Z.kR)
 tT:Binds K Z.kN ["_law_thing"] []
 kZ:gM K "_law_spoil" "_law_spoil" iU Z.kR Z.kN
 p5:mg "_law_is_number"=some (.ref Z.jm)
 sD:Binds K Z.jg ["_law_thing"] []
 md:gM K "_law_is_number" "_law_is_number" fb Z.jm Z.jg
 pP:mg "_law_is_row"=some (.ref Z.mZ)
 rN:Binds K Z.mL ["_law_thing","_law_many"] []
 nk:gM K "_law_is_row" "_law_is_row" h9 Z.mZ Z.mL
 uG:mg "_law_is_grid"=some (.ref Z.kS)
 vL:Binds K Z.kO ["_law_thing","_law_many","_law_wide"] []
 pQ:gM K "_law_is_grid" "_law_is_grid" fU Z.kS Z.kO
 xC:mg "_law_leads"=some (.ref Z.oT)
 y8:Binds K Z.oE ["_law_parts_here","_law_start","_law_goal_here","_law_steps_here","_law_puts_here"] []
 uy:gM K "_law_leads" "_law_leads" iZ Z.oT Z.oE
 xE:mg "_law_added"=some (.ref Z.oV)
 za:Binds K Z.oG ["_law_parts_here","_law_steps_here"] []
 uC:gM K "_law_added" "_law_added" i8 Z.oV Z.oG
 yF:mg "_law_less"=some (.ref Z.rh)
 Ay:Binds K Z.qG ["_law_one","_law_other"] []
 vW:gM K "_law_less" "_law_less" j6 Z.rh Z.qG
 xB:mg "_law_minus"=some (.ref Z.oS)
 y7:Binds K Z.oC ["_law_one","_law_other"] []
 uw:gM K "_law_minus" "_law_minus" iY Z.oS Z.oC
 xD:mg "_law_alone"=some (.ref Z.oU)
 y9:Binds K Z.oF ["_law_parts_here","_law_start","_law_steps_here"] []
 uB:gM K "_law_alone" "_law_alone" i5 Z.oU Z.oF
 vz:mg "_law_priced"=some (.ref Z.mX)
 xI:Binds K Z.mJ ["_law_parts_here","_law_start","_law_goal_here","_law_steps_here","_law_price"] []
 rS:gM K "_law_priced" "_law_priced" hZ Z.mX Z.mJ
 xy:mg "_law_right"=some (.ref Z.oP)
 yY:Binds K Z.oz ["_law_system_here","_law_parts_here","_law_start","_law_goal_here","_law_most"] []
 uu:gM K "_law_right" "_law_right" iV Z.oP Z.oz
 O8:gM K "law" "law" DB Z.MO Z.MB
 abs:mg "abs"=none
 len:mg "len"=none
 min:mg "min"=none
 int:mg "int"=none
 range:mg "range"=none
 isinstance:mg "isinstance"=none
 list:mg "list"=none
 bool:mg "bool"=none
 tuple:mg "tuple"=none
 all:mg "all"=none
 enumerate:mg "enumerate"=none
 max:mg "max"=none
 zip:mg "zip"=none
 sum:mg "sum"=none
 reversed:mg "reversed"=none
 mg_NOUGHT:mg "NOUGHT"=some (.ref Z.a_NOUGHT)
 sq_NOUGHT:∀H,lA K H Z.a_NOUGHT [.int 0,.int 1]
 mg_ONE:mg "ONE"=some (.ref Z.a_ONE)
 sq_ONE:∀H,lA K H Z.a_ONE [.int 1,.int 1]
 mg_MOST_STATES:mg "MOST_STATES"=some (.int 8 Z.t_MOST_STATES)
 mg_MOST_PUTS:mg "MOST_PUTS"=some (.int 4 Z.t_MOST_PUTS)
 mg_MOST_LOOKS:mg "MOST_LOOKS"=some (.int 4 Z.t_MOST_LOOKS)
 mg_System:mg "System"=some (.ref Z.a_System)
 cl_System:KR K Z.a_System
 na_move:kU K Z.a_System "move"
 na_states:kU K Z.a_System "states"
 na_put:kU K Z.a_System "put"
 na_ins:kU K Z.a_System "ins"
 na_look:kU K Z.a_System "look"
 na_outs:kU K Z.a_System "outs"
 mk_System:Mk K Z.a_System Z.ir
section
variable {P:Program} {w:World} {K:W.Frag} {mg:Str->Option Value} {base:Heap} {Z:Ads}
theorem FZ:bu ["_law_script"] ["_law_script"] (ax lO):=by walk_at "d"
theorem Gu (T:Txt K mg Z):cK P w K mg base gi 1 Z.uf Z.tL ["_law_script"] (Lh K):=by
 refine T.yg.ok FZ (λvs H Q E h=>?_) (λcdv A outer s H vs Q E hr h=>?_)
 ·obtain ⟨a,ns,rfl,_⟩:=h;rfl
 ·obtain ⟨a,ns,rfl,hS,hlen,k⟩:=h;refine ⟨_,(az (aV (di (aa aj (aa aj (aa aj (aa (cC ["_law_cell"] [] [] (cR (BN El (pv 0) Jf (AY aj))) (λ_=>(aN (i:=0) (show List.Nodup (α:=PySem.Str) ["_law_cell"] by decide +kernel))) (λ_=>cG) (λ_=>(bD yT (by rfl) T.abs PyProof.Rows.boot_abs (aa (pv 0) ag)))) ag))))))),?_⟩;refine aS (σ:=[some (.ref a)]) rfl ?_;walk_at "w";refine ⟨a,_,rfl,hS,λl hl=>?_⟩;have hcl:(xi (ns.map V.int) none (some 63)).length<=63:=ai (Ap _ _ _) (by simpa using hlen);refine ⟨l,rfl,⟨_,bS.of aK⟩,?_⟩;refine fY (K:=K) (a:=l) (xs:=xi (ns.map V.int) none (some 63)) (λi ys H'=>H'=upd H l (.lst (xi (ns.map V.int) none (some 63)))/\∃cs:List Int,ys=cs.map V.int/\∀x∈cs,0<=x) (ai hcl (by decide)) ⟨rfl,[],rfl,λ_ z=>nomatch z⟩ (λi ys H' _ ⟨e,_⟩=>by subst e;exact bS.of aK) ?_ ?_
  ·rintro i x ys H' hx hi ⟨rfl,cs,rfl,hcs⟩
   obtain ⟨z,rfl⟩:∃z,x=V.int z:=by
    have hm:x∈ns.map V.int:=List.mem_of_mem_drop (cA (aw hx));obtain ⟨z,_,e⟩:=aH.mp hm;exact ⟨z,e.symm⟩
   walk_at "w";refine ⟨rfl,cs++[if z < 0 then -z else z],by simp,λx hx=>?_⟩;rcases ay.mp hx with hx | hx
   ·exact hcs x hx
   ·have e:x=if z < 0 then -z else z:=by simpa using hx
    subst e
    split <;> lia
  ·rintro ys H' hy ⟨rfl,cs,rfl,hcs⟩ p hp;walk_at "w";refine ⟨by show 4<=sizeLine;decide,λb hb=>?_⟩;have n1:b≠p:=λz=>by rw[z,aK] at hb;cases hb
   have hb1:(upd H l (.lst (xi (ns.map V.int) none (some 63)))) b=none:=by rw[bH n1] at hb;exact hb
   have s1:aE H (upd H l (.lst (xi (ns.map V.int) none (some 63)))):=aE.new hl;refine k b _ (s1.free hb1) ⟨p,0,1234567891,0,cs,aK,by rw[bH n1.symm];exact aK,by decide,by decide,by lia,hcs⟩ ((s1.trans (aE.new hp)).trans (aE.new hb))
theorem gI:bu ["_law_bag_here","_law_many","_law_more","_law_cell","_law_value","_law_first","_law_second"] ["_law_bag_here","_law_many"] (ax jU):=by walk_at "d"
theorem aY (T:Txt K mg Z):cK P w K mg base gi 1 Z.qU Z.qo ["_law_bag_here","_law_many"] Nj:=by
 refine T.aX.ok gI (λvs H Q E h=>?_) (λcdv A outer s H vs Q E hr h=>?_)
 ·obtain ⟨p,n,rfl,_⟩:=h;rfl
 ·obtain ⟨p,n,rfl,⟨q,a,b,c,cs,hp,hq,ha,hc,hcl,hcs⟩,hn,hn2,k⟩:=h;have nqp:q≠p:=KG hp hq
  refine ⟨_,(jb (cO (bC fq (bw bV (pv 0) aj) aj (bK _)) (ar (bp (i:=2) gI.nd rfl (Or.inl rfl) aj)
   (jb (cO (bC xm (bw bV (pv 0) aj) (bD aZ (by rfl) T.len aP (aa (bw bV (pv 0) aj) ag)) (bK _)) (ar (bp (i:=3) gI.nd rfl (Or.inl rfl) (bw bV (bw bV (pv 0) aj) (bw bV (pv 0) aj)))
   (ar (N3 (pv 0) aj Mh aj Qr set_list)
   (ar (cO (bC DF (pv 3) aj (bK _)) (az (fz (pv 3) (ic (pv 0) aj set_list))) bT)
   (az (bp (i:=2) gI.nd rfl (Or.inl rfl) (bL eF (bL rE (pv 3) aj) aj)))))) bT)
   (az (fz (bL rE (bL eF (bL dq (bw bV (pv 0) aj) aj) (pv 2)) aj) (ic (pv 0) aj set_list))))) bT)
   (ar (cO (bC xn (bw bV (pv 0) aj) aj (bK _)) (ar (bp (i:=4) gI.nd rfl (Or.inl rfl) (bL rE (bw bV (pv 0) aj) (pv 1)))
   (ar (fz (bL jw (bw bV (pv 0) aj) (pv 1)) (ic (pv 0) aj set_list))
   (az (aV (pv 4))))) bT)
   (ar (bp (i:=5) gI.nd rfl (Or.inl rfl) (bL rE (bL dq (bw bV (pv 0) aj) aj) aj))
   (ar (bp (i:=6) gI.nd rfl (Or.inl rfl) (bL rE (bL dq (pv 5) aj) aj))
   (ar (cO (bC xn (pv 1) aj (bK _)) (az (aV (bL rE (bL eF (bL dq (pv 6) aj) (pv 5)) (pv 1)))) bT)
   (az (aV (bL rE (bL jw (pv 6) aj) (pv 1))))))))),?_⟩
  refine aS (σ:=[some (.ref p),some (.int n),none,none,none,none,none]) rfl ?_;refine ⟨λσ' H'=>∃(x y:Option V) (a' b' c':Int),σ'=[some (.ref p),some (.int n),x,y,none,none,none]/\H' p=some (.lst [.int a',.int b',.int c',.ref q])/\0<=a'/\0<=c'/\c'<=cs.length/\cV p H H',?_,?_⟩
  ·walk_at "w";refine iB (λh0=>?_) (λh0=>?_)
   ·walk_at "w";refine ⟨λσ' H'=>∃(m:Int) (y:Option V) (a' c':Int),σ'=[some (.ref p),some (.int n),some (.int m),y,none,none,none]/\H' p=some (.lst [.int a',.int b,.int c',.ref q])/\0<=a'/\0<=c'/\c'<=cs.length/\cV p H H',?_,?_⟩
    ·walk_at "w";refine ⟨_,_,rfl,.inl (bS.of hq),?_⟩;walk_at "w";refine iB (λh1=>?_) (λh1=>?_)
     ·have h1':c < cs.length:=by simpa using of_decide_eq_true h1
      obtain ⟨z,hz⟩:∃z,cs[c.toNat]?=some z:=⟨_,af (by lia)⟩;have hz0:0<=z:=hcs z (aw hz);walk_at "w";refine cJ (bS.of hq) (v:=.int z) ?_ ?_
      ·have:=fF (xs:=cs.map V.int) (j:=c.toNat) (v:=.int z) (by rw[aM,hz];rfl);rwa [Int.toNat_of_nonneg hc] at this
      walk_at "w";refine iB (λh2=>?_) (λh2=>?_)
      ·walk_at "w";exact ⟨_,_,z,c+1,rfl,aK,hz0,by lia,by lia,(cV.set hp).trans (cV.set aK)⟩
      ·walk_at "w";exact ⟨_,_,a,c+1,rfl,aK,ha,by lia,by lia,cV.set hp⟩
     ·walk_at "w";exact ⟨_,_,a,c,rfl,hp,ha,hc,hcl,cV.refl _⟩
    ·rintro σ' H' ⟨m,y,a',c',rfl,hp',ha',hc',hcl',u'⟩;walk_at "w";exact ⟨_,_,a',_,c',rfl,aK,ha',hc',hcl',u'.trans (cV.set hp')⟩
   ·walk_at "w";exact ⟨_,_,a,b,c,rfl,hp,ha,hc,hcl,cV.refl _⟩
  ·rintro σ' H' ⟨x,y,a',b',c',rfl,hp',ha',hc',hcl',u'⟩;have hq':H' q=some (.lst (cs.map V.int)):=u'.1 q _ hq nqp
   have sn:Sz 8999 n:=by
    show n.natAbs < 2^8999
    exact bI (show n.natAbs < 2^64 by lia) (au (by decide) (by decide))
   walk_at "w";refine iB (λh0=>?_) (λh0=>?_)
   ·walk_at "w";refine gL (show (0:Int) < n from hn) ?_;walk_at "w";refine gL (show sI _ _ from ⟨by lia,sn⟩) ?_;walk_at "w";refine k _ _ (oZ _ (by lia)) (jH _ hn) ⟨q,_,b',c',cs,aK,by rw[bH nqp];exact hq',?_,hc',hcl',hcs⟩ (u'.trans (cV.set hp'));rw[cB _ (by lia)];exact Int.ediv_nonneg ha' (by lia)
   ·walk_at "w";refine iB (λh1=>?_) (λh1=>?_)
    ·walk_at "w";refine gL (show (0:Int) < n from hn) ?_;exact k _ _ (oZ _ (by lia)) (jH _ hn) ⟨q,a',b',c',cs,hp',hq',ha',hc',hcl',hcs⟩ u'
    ·walk_at "w";refine gL (show sI _ _ from ⟨by decide,by show (3:Nat) < 2^8999;exact bI (show 3 < 2^2 by decide) (au (by decide) (by decide))⟩) ?_;walk_at "w";refine gL (show (0:Int) < n from hn) ?_;exact k _ _ (oZ _ (by lia)) (jH _ hn) ⟨q,a',b',c',cs,hp',hq',ha',hc',hcl',hcs⟩ u'
theorem Dc:∃x1 x2 x3 x4 x5 x6 x7 x8 x9 x10 x11 x12 x13 x14 x15 x16:Expr,x1=(Expr.Constant (Const.int 0) 0 ⟨315,16,315,17⟩)/\x2=(Expr.Constant (Const.int 1) 0 ⟨315,19,315,20⟩)/\x3=(Expr.Constant (Const.int 1) 0 ⟨315,22,315,23⟩)/\x4=(Expr.Constant (Const.int 1) 0 ⟨315,25,315,26⟩)/\x5=(Expr.Constant (Const.int 2) 0 ⟨315,28,315,29⟩)/\x6=(Expr.Constant (Const.int 2) 0 ⟨315,31,315,32⟩)/\x7=(Expr.Constant (Const.int 3) 0 ⟨315,34,315,35⟩)/\x8=(Expr.Constant (Const.int 4) 0 ⟨315,37,315,38⟩)/\x9=(Expr.Constant (Const.int 0) 0 ⟨316,17,316,18⟩)/\x10=(Expr.Constant (Const.int 1) 0 ⟨316,20,316,21⟩)/\x11=(Expr.Constant (Const.int 1) 0 ⟨316,23,316,24⟩)/\x12=(Expr.Constant (Const.int 1) 0 ⟨316,26,316,27⟩)/\x13=(Expr.Constant (Const.int 2) 0 ⟨316,29,316,30⟩)/\x14=(Expr.Constant (Const.int 2) 0 ⟨316,32,316,33⟩)/\x15=(Expr.Constant (Const.int 3) 0 ⟨316,35,316,36⟩)/\x16=(Expr.Constant (Const.int 4) 0 ⟨316,38,316,39⟩)/\bf gK=[ (Stmt.Assign (targets:=[(Expr.Name "_law_n" ⟨312,4,312,10⟩)]) (value:=(Expr.Call (func:=(Expr.Name "_law_take" ⟨312,13,312,22⟩)) (args:=[ (Expr.Name "_law_bag_here" ⟨312,23,312,36⟩),(Expr.Constant (Const.int 5) 0 ⟨312,38,312,39⟩)]) (keywords:=[]) (pos:=⟨312,13,312,40⟩))) (pos:=⟨312,4,312,40⟩)),(Stmt.If (test:=(Expr.Compare (left:=(Expr.Call (func:=(Expr.Name "_law_take" ⟨313,7,313,16⟩)) (args:=[ (Expr.Name "_law_bag_here" ⟨313,17,313,30⟩),(Expr.Constant (Const.int 8) 0 ⟨313,32,313,33⟩)]) (keywords:=[]) (pos:=⟨313,7,313,34⟩))) (ops:=[PySem.CmpOp.Eq]) (comparators:=[(Expr.Constant (Const.int 7) 0 ⟨313,38,313,39⟩)]) (pos:=⟨313,7,313,39⟩))) (body:=[ (Stmt.Assign (targets:=[(Expr.Name "_law_n" ⟨314,8,314,14⟩)]) (value:=(Expr.Constant (Const.int 5) 0 ⟨314,17,314,18⟩)) (pos:=⟨314,8,314,18⟩))]) (orelse:=[]) (pos:=⟨313,4,314,18⟩)),(Stmt.Assign (targets:=[(Expr.Name "_law_ins" ⟨315,4,315,12⟩)]) (value:=(Expr.Subscript (value:=(Expr.List (elts:=[x1,x2,x3,x4,x5,x6,x7,x8]) (pos:=⟨315,15,315,39⟩))) (slice:=(Expr.Call (func:=(Expr.Name "_law_take" ⟨315,40,315,49⟩)) (args:=[ (Expr.Name "_law_bag_here" ⟨315,50,315,63⟩),(Expr.Constant (Const.int 8) 0 ⟨315,65,315,66⟩)]) (keywords:=[]) (pos:=⟨315,40,315,67⟩))) (pos:=⟨315,15,315,68⟩))) (pos:=⟨315,4,315,68⟩)),(Stmt.Assign (targets:=[(Expr.Name "_law_outs" ⟨316,4,316,13⟩)]) (value:=(Expr.Subscript (value:=(Expr.List (elts:=[x9,x10,x11,x12,x13,x14,x15,x16]) (pos:=⟨316,16,316,40⟩))) (slice:=(Expr.Call (func:=(Expr.Name "_law_take" ⟨316,41,316,50⟩)) (args:=[ (Expr.Name "_law_bag_here" ⟨316,51,316,64⟩),(Expr.Constant (Const.int 8) 0 ⟨316,66,316,67⟩)]) (keywords:=[]) (pos:=⟨316,41,316,68⟩))) (pos:=⟨316,16,316,69⟩))) (pos:=⟨316,4,316,69⟩)),(Stmt.If (test:=(Expr.Compare (left:=(Expr.Name "_law_n" ⟨317,7,317,13⟩)) (ops:=[PySem.CmpOp.Eq]) (comparators:=[(Expr.Constant (Const.int 5) 0 ⟨317,17,317,18⟩)]) (pos:=⟨317,7,317,18⟩))) (body:=[ (Stmt.Assign (targets:=[ (Expr.Tuple (elts:=[(Expr.Name "_law_ins" ⟨318,8,318,16⟩),(Expr.Name "_law_outs" ⟨318,18,318,27⟩)]) (k:=0) (pos:=⟨318,8,318,27⟩))]) (value:=(Expr.Tuple (elts:=[ (Expr.Call (func:=(Expr.Name "min" ⟨318,31,318,34⟩)) (args:=[ (Expr.Name "_law_ins" ⟨318,35,318,43⟩),(Expr.Constant (Const.int 2) 0 ⟨318,45,318,46⟩)]) (keywords:=[]) (pos:=⟨318,31,318,47⟩)),(Expr.Call (func:=(Expr.Name "min" ⟨318,49,318,52⟩)) (args:=[ (Expr.Name "_law_outs" ⟨318,53,318,62⟩),(Expr.Constant (Const.int 2) 0 ⟨318,64,318,65⟩)]) (keywords:=[]) (pos:=⟨318,49,318,66⟩))]) (k:=0) (pos:=⟨318,30,318,67⟩))) (pos:=⟨318,8,318,67⟩))]) (orelse:=[]) (pos:=⟨317,4,318,67⟩)),(Stmt.Assign (targets:=[(Expr.Name "_law_wide" ⟨319,4,319,13⟩)]) (value:=(Expr.Subscript (value:=(Expr.List (elts:=[ (Expr.Constant (Const.int 4) 0 ⟨319,17,319,18⟩),(Expr.Constant (Const.int 4) 0 ⟨319,20,319,21⟩),(Expr.Constant (Const.int 9) 0 ⟨319,23,319,24⟩),(Expr.Constant (Const.int 1000000) 0 ⟨319,26,319,33⟩)]) (pos:=⟨319,16,319,34⟩))) (slice:=(Expr.Call (func:=(Expr.Name "_law_take" ⟨319,35,319,44⟩)) (args:=[ (Expr.Name "_law_bag_here" ⟨319,45,319,58⟩),(Expr.Constant (Const.int 4) 0 ⟨319,60,319,61⟩)]) (keywords:=[]) (pos:=⟨319,35,319,62⟩))) (pos:=⟨319,16,319,63⟩))) (pos:=⟨319,4,319,63⟩)),(Stmt.If (test:=(Expr.Compare (left:=(Expr.Name "_law_wide" ⟨320,7,320,16⟩)) (ops:=[PySem.CmpOp.Gt]) (comparators:=[(Expr.Constant (Const.int 9) 0 ⟨320,19,320,20⟩)]) (pos:=⟨320,7,320,20⟩))) (body:=[ (Stmt.Assign (targets:=[(Expr.Name "_law_n" ⟨321,8,321,14⟩)]) (value:=(Expr.Call (func:=(Expr.Name "min" ⟨321,17,321,20⟩)) (args:=[ (Expr.Name "_law_n" ⟨321,21,321,27⟩),(Expr.Constant (Const.int 2) 0 ⟨321,29,321,30⟩)]) (keywords:=[]) (pos:=⟨321,17,321,31⟩))) (pos:=⟨321,8,321,31⟩))]) (orelse:=[]) (pos:=⟨320,4,321,31⟩)),(Stmt.Return (value:=(some (Expr.Tuple (elts:=[ (Expr.Name "_law_n" ⟨322,12,322,18⟩),(Expr.Name "_law_ins" ⟨322,20,322,28⟩),(Expr.Name "_law_outs" ⟨322,30,322,39⟩),(Expr.Name "_law_wide" ⟨322,41,322,50⟩)]) (k:=0) (pos:=⟨322,11,322,51⟩)))) (pos:=⟨322,4,322,51⟩))]:=⟨_,_,_,_,_,_,_,_,_,_,_,_,_,_,_,_,rfl,rfl,rfl,rfl,rfl,rfl,rfl,rfl,rfl,rfl,rfl,rfl,rfl,rfl,rfl,rfl,by with_unfolding_all rfl⟩
theorem eX:bu ["_law_bag_here","_law_n","_law_ins","_law_outs","_law_wide"] ["_law_bag_here"] (ax gK):=by walk_at "d"
theorem C0 (T:Txt K mg Z):cK P w K mg base gi 2 Z.oO Z.oy ["_law_bag_here"] JV:=by
 refine T.ur.ok eX (λvs H Q E h=>?_) (λcdv A outer s H vs Q E hr h=>?_)
 ·obtain ⟨b,rfl,_⟩:=h;rfl
 ·obtain ⟨b,rfl,hB,k⟩:=h;obtain ⟨x1,x2,x3,x4,x5,x6,x7,x8,x9,x10,x11,x12,x13,x14,x15,x16,hx1,hx2,hx3,hx4,hx5,hx6,hx7,hx8,hx9,hx10,hx11,hx12,hx13,hx14,hx15,hx16,hbd⟩:=Dc;rw[hbd]
  refine ⟨_,(ar (bp (i:=1) eX.nd rfl (Or.inl rfl) (cP (aY T) hr T.aQ T.aX.kp T.be (aa (pv 0) (aa aj ag))))
   (jb (cO (bC fq (cP (aY T) hr T.aQ T.aX.kp T.be (aa (pv 0) (aa aj ag))) aj (bK _)) (az (bp (i:=1) eX.nd rfl (Or.inl rfl) aj)) bT)
   (ar (bp (i:=2) eX.nd rfl (Or.inl rfl) (bw bV (di (eQ hx1 aj (eQ hx2 aj (eQ hx3 aj (eQ hx4 aj (eQ hx5 aj (eQ hx6 aj (eQ hx7 aj (eQ hx8 aj ag))))))))) (cP (aY T) hr T.aQ T.aX.kp T.be (aa (pv 0) (aa aj ag)))))
   (ar (bp (i:=3) eX.nd rfl (Or.inl rfl) (bw bV (di (eQ hx9 aj (eQ hx10 aj (eQ hx11 aj (eQ hx12 aj (eQ hx13 aj (eQ hx14 aj (eQ hx15 aj (eQ hx16 aj ag))))))))) (cP (aY T) hr T.aQ T.aX.kp T.be (aa (pv 0) (aa aj ag)))))
   (jb (cO (bC fq (pv 1) aj (bK _)) (az (LB (i:=2) (j:=3) rfl eX.nd rfl rfl (by decide) rfl rfl (aa (bD (wL rfl) (by rfl) T.min PyProof.Rows.boot_min (aa (pv 2) (aa aj ag))) (aa (bD (wL rfl) (by rfl) T.min PyProof.Rows.boot_min (aa (pv 3) (aa aj ag))) ag)) rfl)) bT)
   (ar (bp (i:=4) eX.nd rfl (Or.inl rfl) (bw bV (di (aa aj (aa aj (aa aj (aa aj ag))))) (cP (aY T) hr T.aQ T.aX.kp T.be (aa (pv 0) (aa aj ag)))))
   (jb (cO (bC xn (pv 4) aj (bK _)) (az (bp (i:=1) eX.nd rfl (Or.inl rfl) (bD (wL rfl) (by rfl) T.min PyProof.Rows.boot_min (aa (pv 1) (aa aj ag))))) bT)
   (az (aV (cL (aa (pv 1) (aa (pv 2) (aa (pv 3) (aa (pv 4) ag)))))))))))))),?_⟩
  refine aS (σ:=[some (.ref b),none,none,none,none]) rfl ?_;walk_at "w";refine ⟨b,5,rfl,hB,by decide,by decide,λn H1 n0 n1 B1 u1=>?_⟩;obtain ⟨n,rfl⟩:=bQ n0;walk_at "w";refine ⟨λσ' H'=>(∃n:Nat,σ'=[some (.ref b),some (.int n),none,none,none]/\n<=5)/\iC H' b/\cV b H H',?_,?_⟩
  ·walk_at "w";refine ⟨b,8,rfl,B1,by decide,by decide,λv H2 v0 v1 B2 u2=>?_⟩;walk_at "w";refine iB (λ_=>?_) (λ_=>?_)
   ·walk_at "w";exact ⟨⟨5,rfl,by decide⟩,B2,u1.trans u2⟩
   ·walk_at "w";exact ⟨⟨n,rfl,by lia⟩,B2,u1.trans u2⟩
  clear n0 n1 u1 B1;rintro σ' H1 ⟨⟨n,rfl,n5⟩,B1,u1⟩;walk_at "w";refine cQ λl0 H2 s2 n2 g2=>?_
  walk_at "w";refine ⟨b,8,rfl,B1.same s2,by decide,by decide,λv H3 v0 v1 B3 u3=>?_⟩;have g3:=u3.other (λz=>B1.at (by rw[<- z];exact n2)) g2;obtain ⟨x,ex,mx,_⟩:=nK (xs:=[V.int 0,V.int 1,V.int 1,V.int 1,V.int 2,V.int 2,V.int 3,V.int 4]) v0 (by simpa using v1)
  obtain ⟨i,rfl,hi⟩:∃z:Nat,x=.int z/\z<=4:=by
   simp only[aD,aO,or_false] at mx;rcases mx with rfl | rfl | rfl | rfl | rfl | rfl | rfl | rfl
   ·exact ⟨0,rfl,by decide⟩
   ·exact ⟨1,rfl,by decide⟩
   ·exact ⟨1,rfl,by decide⟩
   ·exact ⟨1,rfl,by decide⟩
   ·exact ⟨2,rfl,by decide⟩
   ·exact ⟨2,rfl,by decide⟩
   ·exact ⟨3,rfl,by decide⟩
   ·exact ⟨4,rfl,by decide⟩
  walk_at "w";refine cJ (bS.of g3) ex ?_;clear ex mx g3 g2;walk_at "w";refine cQ λl1 H4 s4 n4 g4=>?_
  walk_at "w";refine ⟨b,8,rfl,B3.same s4,by decide,by decide,λt H5 t0 t1 B5 u5=>?_⟩;have g5:=u5.other (λz=>B3.at (by rw[<- z];exact n4)) g4;obtain ⟨x,ex,mx,_⟩:=nK (xs:=[V.int 0,V.int 1,V.int 1,V.int 1,V.int 2,V.int 2,V.int 3,V.int 4]) t0 (by simpa using t1)
  obtain ⟨o,rfl,ho⟩:∃z:Nat,x=.int z/\z<=4:=by
   simp only[aD,aO,or_false] at mx;rcases mx with rfl | rfl | rfl | rfl | rfl | rfl | rfl | rfl
   ·exact ⟨0,rfl,by decide⟩
   ·exact ⟨1,rfl,by decide⟩
   ·exact ⟨1,rfl,by decide⟩
   ·exact ⟨1,rfl,by decide⟩
   ·exact ⟨2,rfl,by decide⟩
   ·exact ⟨2,rfl,by decide⟩
   ·exact ⟨3,rfl,by decide⟩
   ·exact ⟨4,rfl,by decide⟩
  walk_at "w";refine cJ (bS.of g5) ex ?_;clear ex mx g5 g4;have u15:=(((u1.same s2).trans u3).same s4).trans u5;walk_at "w";refine ⟨λσ' H'=>(∃i o:Nat,σ'=[some (.ref b),some (.int n),some (.int i),some (.int o),none]/\i<=4/\o<=4/\(n=5->i<=2/\o<=2))/\iC H' b/\cV b H H',?_,?_⟩
  ·walk_at "w";refine iB (λh0=>?_) (λh0=>?_)
   ·walk_at "w";refine ⟨⟨min i 2,min o 2,?_,by lia,by lia,λ_=>⟨by lia,by lia⟩⟩,B5,u15⟩;have e1:(if (2:Int) < (i:Int) then (2:Int) else (i:Int))=((min i 2:Nat):Int):=by split <;> lia
    have e2:(if (2:Int) < (o:Int) then (2:Int) else (o:Int))=((min o 2:Nat):Int):=by split <;> lia
    rw[<- e1,<- e2];rfl
   ·walk_at "w";exact ⟨⟨i,o,rfl,hi,ho,λz=>absurd (decide_eq_true (show (n:Int)=5 by lia)) h0⟩,B5,u15⟩
  clear hi ho u15 B5 u5 u3 u1;rintro σ' H5 ⟨⟨i,o,rfl,hi,ho,h5⟩,B5,u5⟩;walk_at "w";refine cQ λl2 H6 s6 n6 g6=>?_
  walk_at "w";refine ⟨b,4,rfl,B5.same s6,by decide,by decide,λv H7 v0 v1 B7 u7=>?_⟩;have g7:=u7.other (λz=>B5.at (by rw[<- z];exact n6)) g6;obtain ⟨x,ex,mx,_⟩:=nK (xs:=[V.int 4,V.int 4,V.int 9,V.int 1000000]) v0 (by simpa using v1)
  obtain ⟨w,rfl,hw⟩:∃w:Nat,x=.int w/\(w=4\/w=9\/w=1000000):=by
   simp only[aD,aO,or_false] at mx;rcases mx with rfl | rfl | rfl | rfl
   ·exact ⟨4,rfl,.inl rfl⟩
   ·exact ⟨4,rfl,.inl rfl⟩
   ·exact ⟨9,rfl,.inr (.inl rfl)⟩
   ·exact ⟨1000000,rfl,.inr (.inr rfl)⟩
  walk_at "w";refine cJ (bS.of g7) ex ?_;have u07:=(u5.same s6).trans u7;walk_at "w";refine ⟨λσ' H'=>(∃n:Nat,σ'=[some (.ref b),some (.int n),some (.int i),some (.int o),some (.int w)]/\n<=5/\(w=4\/w=9\/(w=1000000/\n<=2))/\(n=5->i<=2/\o<=2))/\iC H' b/\cV b H H',?_,?_⟩
  ·walk_at "w";refine iB (λh0=>?_) (λh0=>?_)
   ·walk_at "w";refine ⟨⟨min n 2,?_,by lia,by lia,λz=>by lia⟩,B7,u07⟩;have e1:(if (2:Int) < (n:Int) then (2:Int) else (n:Int))=((min n 2:Nat):Int):=by split <;> lia
    rw[<- e1];rfl
   ·walk_at "w";refine ⟨⟨n,rfl,n5,?_,h5⟩,B7,u07⟩;rcases hw with z | z | z
    ·exact .inl z
    ·exact .inr (.inl z)
    ·exact absurd (decide_eq_true (show (9:Int) < (w:Int) by lia)) h0
  ·clear h5 n5;rintro σ' H8 ⟨⟨n',rfl,n5,hwn,h5⟩,B8,u8⟩;walk_at "w";refine bZ λr H9 s9 g9=>?_
   exact k r n' i o w H9 g9 n5 hi ho hwn h5 (B8.same s9) (u8.same s9)
theorem iN:bu ["_law_bag_here","_law_n","_law_move_here","_law_at","_law_put","_law_first","_law_look"] ["_law_bag_here","_law_n"] (ax j5):=by walk_at "d"
theorem sY (T:Txt K mg Z):cK P w K mg base gi 2 Z.rg Z.qF ["_law_bag_here","_law_n"] (FN K):=by
 refine T.nP.ok iN (λvs H Q E h=>?_) (λcdv A outer s H vs Q E hr h=>?_)
 ·obtain ⟨b,n,rfl,_⟩:=h;rfl
 ·obtain ⟨b,n,rfl,hB,n1,n8,k⟩:=h
  refine ⟨_,(ar (pY 2 ["_law_i"] ["_law_n"] [1] iN.nd rfl rfl (cu rfl T.range (aa (pv 1) ag)) (λ_=>(aN (i:=0) (show List.Nodup (α:=PySem.Str) ["_law_i","_law_n"] by decide +kernel) rfl (Or.inr rfl) (Or.inl rfl))) (λ_=>cG) (λ_=>(cC ["_law_j"] ["_law_i"] [0] (cu rfl T.range (aa (pv 1) ag)) (λ_=>(aN (i:=0) (show List.Nodup (α:=PySem.Str) ["_law_j","_law_i"] by decide +kernel))) (λ_=>cG) (λ_=>(cL (aa (d5 sA (by rfl) T.int PyProof.Rows.boot_int (aa (jC fq (pv 0) (bL eF (pv 1) aj) (bK _)) ag)) (aa aj ag)))))))
   (ar (fz (cC ["_law_j"] ["_law_bag_here"] [0] (cu rfl T.range (aa (pv 1) ag)) (λ_=>(aN (i:=0) (show List.Nodup (α:=PySem.Str) ["_law_j","_law_bag_here"] by decide +kernel))) (λ_=>cG) (λ_=>(cL (aa (bL lU (cP (aY T) hr T.aQ T.aX.kp T.be (aa (pv 1) (aa aj ag))) aj) (aa aj ag))))) (ic (pv 2) (bL lU (pv 1) aj) set_list))
   (ar (bp (i:=3) iN.nd rfl (Or.inr rfl) (bw bV (di (aa (bL lU (pv 1) aj) (aa (cP (aY T) hr T.aQ T.aX.kp T.be (aa (pv 0) (aa (pv 1) ag))) ag))) (cP (aY T) hr T.aQ T.aX.kp T.be (aa (pv 0) (aa aj ag)))))
   (ar (bp (i:=4) iN.nd rfl (Or.inl rfl) (di (aa (cC ["_law_j"] ["_law_at"] [3] (cu rfl T.range (aa (pv 1) ag)) (λ_=>(aN (i:=0) (show List.Nodup (α:=PySem.Str) ["_law_j","_law_at"] by decide +kernel))) (λ_=>cG) (λ_=>(cL (aa (d5 sA (by rfl) T.int PyProof.Rows.boot_int (aa (jC fq (pv 0) (pv 1) (bK _)) ag)) (aa aj ag))))) ag)))
   (ar (bp (i:=5) iN.nd rfl (Or.inr rfl) (bw bV (di (aa aj (aa aj (aa (cP (aY T) hr T.aQ T.aX.kp T.be (aa (pv 0) (aa (pv 1) ag))) ag)))) (cP (aY T) hr T.aQ T.aX.kp T.be (aa (pv 0) (aa aj ag)))))
   (ar (bp (i:=6) iN.nd rfl (Or.inl rfl) (di (aa (cC ["_law_j"] ["_law_first"] [5] (cu rfl T.range (aa (pv 1) ag)) (λ_=>(aN (i:=0) (show List.Nodup (α:=PySem.Str) ["_law_j","_law_first"] by decide +kernel))) (λ_=>cG) (λ_=>(cL (aa (d5 sA (by rfl) T.int PyProof.Rows.boot_int (aa (jC fq (pv 0) (pv 1) (bK _)) ag)) (aa aj ag))))) ag)))
   (az (aV (cL (aa (pv 2) (aa (pv 4) (aa (pv 6) ag)))))))))))),?_⟩
  refine aS (σ:=[some (.ref b),some (.int n),none,none,none,none,none]) rfl ?_
  have bit:∀{z:Int},∀y∈(List.range n).map (λ(j:Nat)=>(((if decide ((j:Int)=z)=true then 1 else 0:Int)):Rat)),Fr 1 1 y:=λy hy=>by
   obtain ⟨j,_,rfl⟩:=aH.mp hy;exact Rt (by split <;> simp)
  walk_at "w";refine ⟨by lia,by lia,?_⟩;refine fX (n:=n) (dF K H) (λ(i:Nat)=>(List.range n).map λ(j:Nat)=>(((if decide ((j:Int)=(i:Int)+1)=true then 1 else 0:Int)):Rat)) (by lia) (λa b=>a.same b) ?_ ?_
  ·rintro i Hb NY NN hi sa k1;walk_at "w";refine ⟨by lia,by lia,?_⟩;refine fX (n:=n) (cx K) (λ(j:Nat)=>(((if decide ((j:Int)=(i:Int)+1)=true then 1 else 0:Int)):Rat)) (by lia) (λa b=>a.same b) ?_ ?_
   ·rintro j Hz NY2 NN2 hj sz k2;walk_at "w";refine bZ λt Hy sy gy=>?_
    exact k2 _ _ sy (cx.mk gy rfl)
   ·rintro ys Hz t ht sz g pr nx;exact k1 _ _ sz ⟨t,rfl,sa.none ht,ys,g,pr⟩
  rintro ys H1 mm hm s1 g1 pr1 nx1;have G1:bP K H H1 mm ((List.range n).map λ(i:Nat)=>(List.range n).map λ(j:Nat)=>(((if decide ((j:Int)=(i:Int)+1)=true then 1 else 0:Int)):Rat)):=⟨ys,g1,pr1,nZ nx1⟩;clear g1 pr1 nx1;have B1:=hB.same s1;have mb:mm≠b:=λz=>hB.at (by rw[<- z];exact hm)
  obtain ⟨q0,I0,xq,gq0⟩:=hB.inner;have mq:mm≠q0:=λz=>by rw[<- z,hm] at gq0;cases gq0
  walk_at "w";refine ⟨by lia,by lia,?_⟩;refine zY (n:=n) (b:=b) (cx K) (Fr 1 1) B1 (by lia) (λa u B=>a.upto u B) ?_ ?_
  ·rintro j Ha NY NN hj ua Ba k1;walk_at "w";refine ⟨b,3,rfl,Ba,by decide,by decide,λv Hb v0 v1 Bb ub=>?_⟩;walk_at "w";refine bZ λt Hc sc gc=>?_
   exact k1 _ ((v - 1:Int):Rat) _ (ub.same sc) (Bb.same sc) (Fr.int (by lia)) (cx.mk gc rfl)
  rintro ys2 cs H2 q2 hq2 u2 B2 g2 lc hc pr2 _;have u02:=(s1.upto (p:=b)).trans u2;have nq2:H q2=none:=s1.none hq2;obtain ⟨us,gu,pu⟩:=(G1.upto u2 B1 mb hB.at).toE;have lu:=pu.length;rw[ao,cE] at lu
  have q2m:q2≠mm:=λz=>by
   obtain ⟨_,gg,_⟩:=id G1;rw[z,gg] at hq2;cases hq2
  walk_at "w";rw[show ((n:Int) - 1)=((n - 1:Nat):Int) by lia];refine fu gu (fE (by lia)) rfl ?_;have G3:bP K H (upd H2 mm (.lst (us.set (n - 1) (.ref q2)))) mm (((List.range n).map λ(i:Nat)=>(List.range n).map λ(j:Nat)=>(((if decide ((j:Int)=(i:Int)+1)=true then 1 else 0:Int)):Rat)).set (n - 1) cs):=bP.ofE aK (lQ (Paired.imp' (λ_ _ z=>KJ.updL z gu (λq h=>h.2)) pu) (n - 1) ⟨q2,rfl,⟨nq2,q2m⟩,cw.updL ⟨ys2,g2,pr2⟩ gu q2m⟩) (λq h=>h.1) (λq h=>h.2);have B3:iC (upd H2 mm (.lst (us.set (n - 1) (.ref q2)))) b:=B2.upd (u02.2 _ I0) mb mq;have u03:cV b H (upd H2 mm (.lst (us.set (n - 1) (.ref q2)))):=u02.after hm;obtain ⟨mv,emv⟩:∃mv,mv=((List.range n).map λ(i:Nat)=>(List.range n).map λ(j:Nat)=>(((if decide ((j:Int)=(i:Int)+1)=true then 1 else 0:Int)):Rat)).set (n - 1) cs:=⟨_,rfl⟩;have lmv:mv.length=n:=by rw[emv,dY,ao,cE]
  have hmv:∀xs∈mv,xs.length=n/\∀y∈xs,Fr 1 1 y:=λxs hx=>by
   rw[emv] at hx;rcases cm hx with hx | rfl
   ·obtain ⟨i,_,rfl⟩:=aH.mp hx;exact ⟨by rw[ao,cE],bit⟩
   ·exact ⟨lc,hc⟩
  rw[<- emv] at G3;generalize upd H2 mm (.lst (us.set (n - 1) (.ref q2)))=H3 at G3 B3 u03 ⊢;clear emv pu gu G1 u2 pr2 g2 B2;walk_at "w";refine ⟨b,n,rfl,B3,by lia,by lia,λa1 H4 a10 a11 B4 u4=>?_⟩;walk_at "w";refine cQ λl1 H5 s5 nl1 g5=>?_
  walk_at "w";refine ⟨b,2,rfl,B4.same s5,by decide,by decide,λv H6 v0 v1 B6 u6=>?_⟩;have g6:=u6.other (λz=>B4.at (by rw[<- z];exact nl1)) g5;obtain ⟨x,ex,mx,_⟩:=nK (xs:=[V.int ((n:Int) - 1),V.int a1]) v0 (by simpa using v1)
  obtain ⟨at',rfl⟩:∃a:Int,x=.int a:=by
   simp only[aD,aO,or_false] at mx;rcases mx with rfl | rfl
   ·exact ⟨_,rfl⟩
   ·exact ⟨_,rfl⟩
  walk_at "w";refine cJ (bS.of g6) ex ?_;have u36:=(u4.same s5).trans u6;have G6:=G3.upto u36 B3 mb hB.at;have u06:=u03.trans u36;clear ex mx g6 g5 G3 u4 u6;walk_at "w";refine ⟨by lia,by lia,?_⟩;refine fX (n:=n) (cx K) (λ(j:Nat)=>(((if decide ((j:Int)=at')=true then 1 else 0:Int)):Rat)) (by lia) (λa b=>a.same b) ?_ ?_
  ·rintro j Hz NY2 NN2 hj sz k2;walk_at "w";refine bZ λt Hy sy gy=>?_
   exact k2 _ _ sy (cx.mk gy rfl)
  rintro ys7 H7 q7 hq7 s7 g7 pr7 _;have R7:cw K H7 q7 _:=⟨ys7,g7,pr7⟩;walk_at "w";refine cQ λp8 H8 s8 n8' g8=>?_
  have s68:=s7.trans s8;have q78:q7≠p8:=λz=>by rw[z,n8'] at g7;cases g7
  have np8:H p8=none:=u06.none B6 (s7.none n8');have nq7:H q7=none:=u06.none B6 hq7
  have GP:bP K H H8 p8 [(List.range n).map λ(j:Nat)=>(((if decide ((j:Int)=at')=true then 1 else 0:Int)):Rat)]:=⟨_,g8,.cons ⟨q7,rfl,nq7,R7.same s8⟩ .nil,λz=>by
   rw[bN] at z;cases z;exact q78 rfl⟩
  have B8:=B6.same s68;have u08:=u06.same s68;have G8:=G6.same s68;have pb:p8≠b:=λz=>hB.at (by rw[<- z];exact np8)
  walk_at "w";refine ⟨b,n,rfl,B8,by lia,by lia,λa2 H9 a20 a21 B9 u9=>?_⟩;walk_at "w";refine cQ λl2 Ha sa nl2 ga=>?_
  walk_at "w";refine ⟨b,3,rfl,B9.same sa,by decide,by decide,λv' Hb v0' v1' Bb ub=>?_⟩;have gb:=ub.other (λz=>B9.at (by rw[<- z];exact nl2)) ga;obtain ⟨x,ex,mx,_⟩:=nK (xs:=[V.int 0,V.int 0,V.int a2]) v0' (by simpa using v1')
  obtain ⟨fi,rfl⟩:∃a:Int,x=.int a:=by
   simp only[aD,aO,or_false] at mx;rcases mx with rfl | rfl | rfl
   ·exact ⟨_,rfl⟩
   ·exact ⟨_,rfl⟩
   ·exact ⟨_,rfl⟩
  walk_at "w";refine cJ (bS.of gb) ex ?_;have u8b:=(u9.same sa).trans ub;have Gb:=G8.upto u8b B8 mb hB.at;have GPb:=GP.upto u8b B8 pb hB.at;have u0b:=u08.trans u8b;clear ex mx gb ga G8 GP u9 ub;walk_at "w";refine ⟨by lia,by lia,?_⟩;refine fX (n:=n) (cx K) (λ(j:Nat)=>(((if decide ((j:Int)=fi)=true then 1 else 0:Int)):Rat)) (by lia) (λa b=>a.same b) ?_ ?_
  ·rintro j Hz NY2 NN2 hj sz k2;walk_at "w";refine bZ λt Hy sy gy=>?_
   exact k2 _ _ sy (cx.mk gy rfl)
  rintro ysc Hc qc hqc sc gc prc _;have Rc:cw K Hc qc _:=⟨ysc,gc,prc⟩;walk_at "w";refine cQ λpd Hd sd nd gd=>?_
  have sbd:=sc.trans sd;have qcd:qc≠pd:=λz=>by rw[z,nd] at gc;cases gc
  have npd:H pd=none:=u0b.none Bb (sc.none nd);have nqc:H qc=none:=u0b.none Bb hqc
  have GL:bP K H Hd pd [(List.range n).map λ(j:Nat)=>(((if decide ((j:Int)=fi)=true then 1 else 0:Int)):Rat)]:=⟨_,gd,.cons ⟨qc,rfl,nqc,Rc.same sd⟩ .nil,λz=>by
   rw[bN] at z;cases z;exact qcd rfl⟩
  walk_at "w";refine bZ λr He se ge=>?_
  have sbe:=sbd.trans se;refine k r mv _ _ He ⟨mm,p8,pd,ge,hm,np8,npd,Gb.same sbe,GPb.same sbe,GL.same se⟩ lmv rfl rfl ⟨by lia,by simp,by simp,λxs hx=>by rw[(hmv xs hx).1,lmv],λxs hx=>?_,λxs hx=>?_⟩ (λxs hx=>(hmv xs hx).2) (λxs hx=>?_) (λxs hx=>?_) (Bb.same sbe) (u0b.same sbe)
  ·rw[bN.mp hx,ao,cE,lmv]
  ·rw[bN.mp hx,ao,cE,lmv]
  ·rw[bN.mp hx];exact bit
  ·rw[bN.mp hx];exact bit
theorem pU:bu ["_law_top","_law_bottom","_law_one","_law_other"] ["_law_top","_law_bottom"] (ax lK):=by walk_at "d"
theorem ka (T:Txt K mg Z):cK P w K mg base gi 1 Z.t8 Z.tI ["_law_top","_law_bottom"] Po:=by
 refine T.iL.ok pU (λvs H Q E h=>?_) (λcdv A outer s H vs Q E hr h=>?_)
 ·obtain ⟨t,b,rfl,_⟩:=h;rfl
 ·obtain ⟨t,b,rfl,hb,hs,k⟩:=h
  refine ⟨_,(ar (bp (i:=2) pU.nd rfl (Or.inl rfl) (bD yT (by rfl) T.abs PyProof.Rows.boot_abs (aa (pv 0) ag)))
   (ar (bp (i:=3) pU.nd rfl (Or.inl rfl) (pv 1))
   (ar (BK PassesOwn.never (bC vf (pv 2) aj (bK _))
    (az (LB (i:=2) (j:=3) rfl pU.nd rfl rfl (by decide) rfl rfl (aa (bL rE (pv 3) (pv 2)) (aa (pv 2) ag)) rfl)))
   (az (aV (cL (aa (bL jw (pv 0) (pv 3)) (aa (bL jw (pv 1) (pv 3)) ag)))))))),?_⟩
  refine aS (σ:=[some (.int t),some (.int b),none,none]) rfl ?_;walk_at "w"
  refine Eb (λσ' H'=>∃(u v:Int),σ'=[some (.int t),some (.int b),some (.int u),some (.int v)]/\H'=H/\0<=u/\0 < v/\Int.gcd u v=Int.gcd t b) (λσ' _=>match σ' with | [_,_,some (.int u),_]=>u.natAbs | _=>0) ⟨_,b,rfl,rfl,by split <;> lia,hb,by
   split
   ·rw[Int.neg_gcd]
   ·rfl⟩ ?_
  rintro σ' H' ⟨u,v,rfl,rfl,hu,hv,hg⟩;walk_at "w";refine iB (λh=>?_) (λh=>?_)
  ·have hu0:u≠0:=λz=>by subst z;simp at h
   walk_at "w";refine gL (show (0:Int) < u by lia) ?_;walk_at "w";have h1:=oZ v hu0;have h2:=jH v (show 0 < u by lia);exact ⟨⟨v % u,u,rfl,rfl,h1,by lia,by rw[nC,Ml,nC];exact hg⟩,by show (v % u).natAbs < u.natAbs;lia⟩
  ·have hu0:u=0:=by
    by_cases z:u=0
    ·exact z
    ·exfalso;apply h;simp [z]
   subst hu0
   have e:v=g t b:=by
    unfold g;rw[<- hg,Int.gcd_zero_left]
    lia
   have hgs:Sz 8999 v:=hs.le (by
    rw[e];have h1:(g t b).natAbs=Int.gcd t b:=by unfold g;simp
    rw[h1];exact ko (by lia) (by have:=fH (a:=t) (b:=b);exact gO.mpr this |> λz=>by simpa using z))
   walk_at "w";refine gL (show sI _ _ from ⟨by lia,hgs⟩) ?_;walk_at "w";refine gL (show sI _ _ from ⟨by lia,hgs⟩) ?_;walk_at "w";refine bZ λr H' s' h'=>?_
   rw[cB _ (by lia),cB _ (by lia),e] at h';exact k r H' s' h'
theorem FX:bu ["_law_one","_law_other"] ["_law_one","_law_other"] (ax lH):=by walk_at "d"
theorem nE (T:Txt K mg Z):cK P w K mg base gi 2 Z.tY Z.tG ["_law_one","_law_other"] (sQ K (λx y=>x+y)):=by
 refine T.jO.ok FX (λvs H Q E h=>?_) (λcdv A outer s H vs Q E hr h=>?_)
 ·obtain ⟨p,q,a,b,c,d,rfl,hp,hq,hb,hd,sa,sb,sc,sd,k⟩:=JI h;rfl
 ·obtain ⟨p,q,a,b,c,d,rfl,hp,hq,hb,hd,sa,sb,sc,sd,k⟩:=JI h;refine ⟨_,(az (aV (cP (ka T) hr T.iH T.iL.kp T.jN (aa (bL eF (bL dq (bw bY (pv 0) aj) (bw bY (pv 1) aj)) (bL dq (bw bY (pv 1) aj) (bw bY (pv 0) aj))) (aa (bL dq (bw bY (pv 0) aj) (bw bY (pv 1) aj)) ag))))),?_⟩;refine aS (σ:=[some (.ref p),some (.ref q)]) rfl ?_;have hbd:0 < b*d:=pS hb hd;have sbd:Sz 8999 (b*d):=(sb.mul sd).mono (by decide);walk_at "w";refine gL (show js _ _ from .inr ⟨_,_,sa,sd,by decide⟩) ?_;walk_at "w";refine gL (show js _ _ from .inr ⟨_,_,sc,sb,by decide⟩) ?_;walk_at "w";refine gL (show js _ _ from .inr ⟨_,_,sb,sd,by decide⟩) ?_;walk_at "w";walk_at "w";refine ⟨_,_,rfl,hbd,sbd,k⟩
theorem Eu:bu ["_law_one","_law_other"] ["_law_one","_law_other"] (ax jX):=by walk_at "d"
theorem yw (T:Txt K mg Z):cK P w K mg base gi 3 Z.qX Z.qB ["_law_one","_law_other"] (FI K):=by
 refine T.rk.ok Eu (λvs H Q E h=>?_) (λcdv A outer s H vs Q E hr h=>?_)
 ·obtain ⟨p,q,xs,ys,rfl,_⟩:=h;rfl
 ·obtain ⟨p,q,xs,ys,rfl,hp,hq,hl,hz,h1,h2,kk⟩:=h;refine ⟨_,(az (aV (cC ["_law_k"] ["_law_one","_law_other"] [0,1] (cu rfl T.range (aa (bD aZ (by rfl) T.len aP (aa (pv 0) ag)) ag)) (λ_=>(aN (i:=0) (show List.Nodup (α:=PySem.Str) ["_law_k","_law_one","_law_other"] by decide +kernel))) (λ_=>cG) (λ_=>(cP (nE T) hr T.ke T.jO.kp T.lY (aa (bw (nG K (by rfl)) (pv 1) (pv 0)) (aa (bw (nG K (by rfl)) (pv 2) (pv 0)) ag))))))),?_⟩;refine aS (σ:=[some (.ref p),some (.ref q)]) rfl ?_;obtain ⟨us,gu,qu⟩:=id hp;obtain ⟨ws,gw,qw⟩:=id hq;have lu:=qu.length;walk_at "w";refine ⟨_,_,rfl,.inl (bS.of gu),?_⟩;walk_at "w";refine ⟨by lia,by lia,?_⟩;refine fX (n:=us.length) (cx K) (λi=>xs.getD i 0+ys.getD i 0) (by lia) (λa b=>a.same b) ?_ ?_
  ·rintro i H' NY NN hi s k1;have ix:i < xs.length:=by lia
   have iy:i < ys.length:=by lia
   obtain ⟨vx,ex,nx⟩:=Kt (Paired.imp' (λ_ _ z=>z.same s) qu) ix;obtain ⟨vy,ey,ny⟩:=Kt (Paired.imp' (λ_ _ z=>z.same s) qw) iy;walk_at "w";refine cJ (bS.of (s _ _ gu)) ex ?_;walk_at "w";refine cJ (bS.of (s _ _ gw)) ey ?_;walk_at "w";exact ⟨_,_,_,_,rfl,nx,ny,h1 _ (getD_mem ix),h2 _ (getD_mem iy),λr3 H3 s3 n3=>k1 _ _ s3 n3⟩
  ·rintro ys' H' l hl' s g pr nx;exact kk l H' hl' s ⟨ys',g,by rw[Df (by lia)];rw[<- lu] at pr;exact pr⟩
theorem Et:bu ["_law_one","_law_other"] ["_law_one","_law_other"] (ax jW):=by walk_at "d"
theorem oa (T:Txt K mg Z):cK P w K mg base gi 2 Z.qW Z.qA ["_law_one","_law_other"] (sQ K (λx y=>x*y)):=by
 refine T.ki.ok Et (λvs H Q E h=>?_) (λcdv A outer s H vs Q E hr h=>?_)
 ·obtain ⟨p,q,a,b,c,d,rfl,hp,hq,hb,hd,sa,sb,sc,sd,k⟩:=Ji h;rfl
 ·obtain ⟨p,q,a,b,c,d,rfl,hp,hq,hb,hd,sa,sb,sc,sd,k⟩:=Ji h;refine ⟨_,(az (aV (cP (ka T) hr T.iH T.iL.kp T.jN (aa (bL dq (bw bY (pv 0) aj) (bw bY (pv 1) aj)) (aa (bL dq (bw bY (pv 0) aj) (bw bY (pv 1) aj)) ag))))),?_⟩;refine aS (σ:=[some (.ref p),some (.ref q)]) rfl ?_;have hbd:0 < b*d:=pS hb hd;have sbd:Sz 8999 (b*d):=(sb.mul sd).mono (by decide);walk_at "w";refine gL (show js _ _ from .inr ⟨_,_,sa,sc,by decide⟩) ?_;walk_at "w";refine gL (show js _ _ from .inr ⟨_,_,sb,sd,by decide⟩) ?_;walk_at "w";walk_at "w";refine ⟨_,_,rfl,hbd,sbd,k⟩
theorem HM:bu ["_law_by_here","_law_row_here"] ["_law_by_here","_law_row_here"] (ax pA):=by walk_at "d"
theorem BX (T:Txt K mg Z):cK P w K mg base gi 3 Z.w5 Z.wJ ["_law_by_here","_law_row_here"] (Lg K):=by
 refine T.xc.ok HM (λvs H Q E h=>?_) (λcdv A outer s H vs Q E hr h=>?_)
 ·obtain ⟨u,q,c,ys,rfl,_⟩:=h;rfl
 ·obtain ⟨u,q,c,ys,rfl,hc,sc,hq,hz,h2,kk⟩:=h;refine ⟨_,(az (aV (cC ["_law_one"] ["_law_by_here"] [0] (cR (pv 1)) (λ_=>(aN (i:=0) (show List.Nodup (α:=PySem.Str) ["_law_one","_law_by_here"] by decide +kernel))) (λ_=>cG) (λ_=>(cP (oa T) hr T.kL T.ki.kp T.nJ (aa (pv 1) (aa (pv 0) ag))))))),?_⟩;refine aS (σ:=[some u,some (.ref q)]) rfl ?_;obtain ⟨us,gu,qu⟩:=id hq;walk_at "w";refine ⟨⟨_,bS.of gu⟩,?_⟩;refine ff (K:=K) (F:=cx K) (cx K) (λy=>c*y) gu qu hz (λa b=>a.same b) (λa b=>a.same b) ?_ ?_
  ·rintro i y x H' NY NN en s hx k;walk_at "w";exact ⟨_,_,_,_,rfl,hc.same s,hx,sc,h2 y (aw en),λr H2 s2 h2'=>k _ _ s2 h2'⟩
  ·rintro ys' H' r hr s g pr nx;exact kk r H' hr s ⟨ys',g,pr⟩
theorem eB:bu ["_law_bag_here","_law_move_here","_law_put","_law_look","_law_n","_law_turn","_law_i","_law_j","_law_by_here","_law_less_here","_law_row_here"] ["_law_bag_here","_law_move_here","_law_put","_law_look"] (ax iX):=by walk_at "d"
theorem xr (T:Txt K mg Z):cK P w K mg base gi 4 Z.oR Z.oB ["_law_bag_here","_law_move_here","_law_put","_law_look"] (Du K):=by
 refine T.oX.ok eB (λvs H Q E h=>?_) (λcdv A outer s H vs Q E hr h=>?_)
 ·obtain ⟨b,m,p,l,q0,n,WV,μ,A,us,ws,vs,rfl,_⟩:=h;rfl
 ·obtain ⟨b,m,p,l,q0,n,WV,μ,A,us,ws,vs,rfl,MA,X,n8,i4,o4,M0,M1,⟨M,eM⟩,V1,hA,k⟩:=h
  refine ⟨_,(ar (bp (i:=4) eB.nd rfl (Or.inl rfl) (bD aZ (by rfl) T.len aP (aa (pv 1) ag)))
   (ar (cO (PW.pt (lB (bC xm (pv 4) aj (bK _)) (kC (bC fq (cP (aY T) hr T.aQ T.aX.kp T.be (aa (pv 0) (aa aj ag))) aj (bK _))))) (az (aV (cL (aa (pv 1) (aa (pv 2) (aa (pv 3) ag)))))) bT)
   (ar (dR PassesOwn.never rfl (cu rfl T.range (aa (bL eF aj (cP (aY T) hr T.aQ T.aX.kp T.be (aa (pv 0) (aa aj ag)))) ag)) (aN (i:=5) eB.nd)
    (ar (bp (i:=6) eB.nd rfl (Or.inl rfl) (cP (aY T) hr T.aQ T.aX.kp T.be (aa (pv 0) (aa (pv 4) ag))))
   (ar (bp (i:=7) eB.nd rfl (Or.inl rfl) (bL rE (bL eF (bL eF (pv 6) aj) (cP (aY T) hr T.aQ T.aX.kp T.be (aa (pv 0) (aa (bL lU (pv 4) aj) ag)))) (pv 4)))
   (ar (bp (i:=8) eB.nd rfl (Or.inl rfl) (cL (aa (bw bV (di (aa aj (aa (Aj uQ aj) (aa aj (aa (Aj uQ aj) ag))))) (cP (aY T) hr T.aQ T.aX.kp T.be (aa (pv 0) (aa aj ag)))) (aa aj ag))))
   (ar (bp (i:=9) eB.nd rfl (Or.inl rfl) (cL (aa (bL lU aj (bw bY (pv 8) aj)) (aa aj ag))))
   (ar (fz (cP (yw T) hr T.tq T.rk.kp T.vK (aa (bw bV (pv 1) (pv 6)) (aa (cP (BX T) hr T.ya T.xc.kp T.z7 (aa (pv 8) (aa (bw bV (pv 1) (pv 7)) ag))) ag))) (ic (pv 1) (pv 6) set_list))
   (ar (dR PassesOwn.never rfl (cR (bL kG (pv 1) (pv 3))) (aN (i:=10) eB.nd)
    (az (fz (cP (nE T) hr T.ke T.jO.kp T.lY (aa (bw bV (pv 10) (pv 7)) (aa (cP (oa T) hr T.kL T.ki.kp T.nJ (aa (pv 9) (aa (bw bV (pv 10) (pv 6)) ag))) ag))) (ic (pv 10) (pv 7) set_list))))
   (az (dR PassesOwn.never rfl (cR (pv 2)) (aN (i:=10) eB.nd)
    (az (fz (cP (nE T) hr T.ke T.jO.kp T.lY (aa (bw bV (pv 10) (pv 6)) (aa (cP (oa T) hr T.kL T.ki.kp T.nJ (aa (pv 8) (aa (bw bV (pv 10) (pv 7)) ag))) ag))) (ic (pv 10) (pv 6) set_list))))))))))))
   (az (aV (cL (aa (pv 1) (aa (pv 2) (aa (pv 3) ag))))))))),?_⟩
  refine aS (σ:=[some (.ref b),some (.ref m),some (.ref p),some (.ref l),none,none,none,none,none,none,none]) rfl ?_;have done:∀r us' H' t,t<=3->H' r=some (.tup [.ref m,.ref p,.ref l])->kW K A H' n (λx=>Fr (μ x) (9^t*WV)) m p l b q0 us' ws vs->jr A b m H H'->Q (.ref r) H':=λr us' H' t ht g x kp=>k r us' H' g (x.weak λ_ _ y h=>h.mono (aA _ (au (by decide) ht))) kp
  have X0:kW K A H n (λx=>Fr (μ x) (9^0*WV)) m p l b q0 us ws vs:=X.weak λ_ _ y h=>h.mono (by simp)
  clear X k;have gu:=X0.gm;have lu:=X0.lm;walk_at "w";refine ⟨_,_,rfl,.inl (bS.of gu),?_⟩;rw[lu];clear gu lu;have kp0:jr A b m H H:=λ_ _ h _ _ _=>h
  walk_at "w";refine iB (λh0=>?_) (λh0=>?_)
  ·walk_at "w";refine bZ λr H' s' g'=>?_
   exact done r us H' 0 (by decide) g' (X0.same s') (kp0.same s')
  have n2:2<=n:=by
   rcases cN n 2 with z | z
   ·exact absurd (decide_eq_true (show (n:Int) < 2 by lia)) h0
   ·exact z
  walk_at "w";refine ⟨b,2,rfl,X0.bag,by decide,by decide,λv H1 v0 v1 B1 u1=>?_⟩;have X1:=X0.upto MA u1 B1;have kp1:=kp0.upto u1;walk_at "w";refine iB (λh1=>?_) (λh1=>?_)
  ·walk_at "w";refine bZ λr H' s' g'=>?_
   exact done r us H' 0 (by decide) g' (X1.same s') (kp1.same s')
  walk_at "w";refine ⟨b,3,rfl,B1,by decide,by decide,λc H2 c0 c1 B2 u2=>?_⟩;have X2:=X1.upto MA u2 B2;have kp2:=kp1.upto u2;clear X0 X1 kp0 kp1 u1 u2 B1;walk_at "w";refine ⟨by lia,by lia,?_⟩;refine eN (n:=(1+c).toNat) (λt σ' H'=>∃(x1 x2 x3 x4 x5 x6:Option V) (us:List V),σ'=[some (.ref b),some (.ref m),some (.ref p),some (.ref l),some (.int n),x1,x2,x3,x4,x5,x6]/\kW K A H' n (λx=>Fr (μ x) (9^t*WV)) m p l b q0 us ws vs/\jr A b m H H') ⟨none,none,none,none,none,none,us,rfl,X2,kp2⟩ ?_ ?_
  ·rintro t σ' H' ht ⟨x1,x2,x3,x4,x5,x6,us,rfl,X,kp⟩;have t3:t<=2:=by lia
   walk_at "w";refine ⟨b,n,rfl,X.bag,by lia,by lia,λii Ha i0 i1 Ba ua=>?_⟩;obtain ⟨ii,rfl⟩:=bQ i0;have Xa:=X.upto MA ua Ba;have kpa:=kp.upto ua;walk_at "w";refine ⟨b,_,rfl,Ba,by lia,by lia,λd Hb d0 d1 Bb ub=>?_⟩;have Xb:=Xa.upto MA ub Bb;have kpb:=kpa.upto ub;walk_at "w";refine gL (show (0:Int) < n by lia) ?_;have j0:=oZ ((ii:Int)+1+d) (show (n:Int)≠0 by lia);have j1:=jH ((ii:Int)+1+d) (show (0:Int) < n by lia);generalize ((ii:Int)+1+d) % (n:Int)=jj at j0 j1 ⊢;obtain ⟨jj,rfl⟩:=bQ j0;walk_at "w";refine cQ λl0 Hc sc nc gc=>?_
   walk_at "w";refine ⟨b,4,rfl,Bb.same sc,by decide,by decide,λv' Hd v0' v1' Bd ud=>?_⟩;have gd:=ud.other (λz=>Bb.at (by rw[<- z];exact nc)) gc;obtain ⟨x,ex,mx,_⟩:=nK (xs:=[V.int 1,V.int (-1),V.int 2,V.int (-2)]) v0' (by simpa using v1')
   obtain ⟨z,rfl,hz⟩:∃z:Int,x=.int z/\z.natAbs<=2:=by
    simp only[aD,aO,or_false] at mx;rcases mx with rfl | rfl | rfl | rfl
    ·exact ⟨1,rfl,by decide⟩
    ·exact ⟨-1,rfl,by decide⟩
    ·exact ⟨2,rfl,by decide⟩
    ·exact ⟨-2,rfl,by decide⟩
   have Xd:=(Xb.same sc).upto MA ud Bd;have kpd:=(kpb.same sc).upto ud;walk_at "w";refine cJ (bS.of gd) ex ?_;walk_at "w";refine bZ λbt He se ge=>?_
   walk_at "w";refine bZ λlt Hf sf gf=>?_
   have Xf:=(Xd.same se).same sf;have kpf:=(kpd.same se).same sf;have nb:cx K Hf ((z:Int):Rat) (.ref bt):=cx.mk (sf _ _ ge) rfl;have nl:cx K Hf ((0 - z:Int):Rat) (.ref lt):=cx.mk gf rfl;clear X Xa Xb Xd kp kpa kpb kpd ua ub ud sc gc gd ex mx ge gf se sf Ba Bb Bd nc;have gu:=Xf.gm;have lu:=Xf.lm
   have ru:∀x∈us,fO K A Hf n (Fr M (9^t*WV)) x:=λx hx=>by
    have:=Xf.row x (by simp [hx]);rwa [eM x (Xf.apart.1 x hx).1 (Xf.apart.1 x hx).2] at this
   have hM:0 < M/\M<=2^800:=by
    have hx:us[ii]'(by lia)∈us:=aT _;have:=eM _ (Xf.apart.1 _ hx).1 (Xf.apart.1 _ hx).2;rw[<- this];exact ⟨M0 _,M1 _⟩
   have e1:us[ii]?=some (us[ii]'(by lia)):=by simp
   have e2:us[jj]?=some (us[jj]'(by lia)):=by simp
   obtain ⟨q1,z1,qs1,w1,a1,g1,k1,p1,l1,c1⟩:=(ru _ (aw e1)).at;obtain ⟨q2,z2,qs2,w2,a2,g2,k2,p2,l2,c2⟩:=(ru _ (aw e2)).at;rw[w1] at e1;rw[w2] at e2;generalize eW:9^t*WV=W at *
   have W9:9*W<=2^140:=by rw[<- eW];exact N5 (by lia) V1 (by decide)
   have sz9M:∀{x:Rat} {U:Nat},U<=9*W->Fr M U x->ug x:=λhU h=>Jv hM.1 hM.2 (ai hU W9) h
   have sz9:∀{x:Rat} {U:Nat} {v:V},U<=9*W->Fr (μ v) U x->ug x:=λhU h=>Jv (M0 _) (M1 _) (ai hU W9) h
   walk_at "w";refine cJ (bS.of gu) (fF e1) ?_;walk_at "w";refine cJ (bS.of gu) (fF e2) ?_;walk_at "w";refine ⟨_,q2,_,qs2,rfl,nb,Ef (by lia),⟨z2,g2,p2⟩,by lia,λy hy=>sz9M (by lia) (c2 y hy),λr1 Hg n1 sg R1=>?_⟩;walk_at "w";refine ⟨q1,r1,qs1,_,rfl,⟨z1,sg _ _ g1,Paired.imp' (λ_ _ y=>y.same sg) p1⟩,R1,by rw[ao,l1,l2],by lia,λy hy=>sz9M (by lia) (c1 y hy),λy hy=>?_,λr2 Hh n2' sh R2=>?_⟩
   ·obtain ⟨y',hy',rfl⟩:=aH.mp hy;exact Bo hz (c2 y' hy') hM.1 hM.2 (by lia)
   have sfh:=sg.trans sh
   have new:V.ref r2∉us++vs++ws:=λz=>by
    obtain ⟨q',_,_,e',_,g',_⟩:=((Xf.same sg).row _ z).at;cases e';rw[n2'] at g';cases g'
   have Xh:=(Xf.same sfh).weak (C':=λx y=>(x∈ws->Fr (μ x) W y)/\Fr (μ x) (3*W) y) λx _ y h=>⟨λ_=>h,h.mono (by lia)⟩
   have kph:=kpf.same sfh;have guh:=sfh _ _ gu;have ar2:A r2:=(kpf.same sg).new hA (Xf.same sg).bag (by rw[sg _ _ gu];simp) n2'
   have rp2:fO K A Hh n (λy=>(V.ref r2∈ws->Fr (μ (.ref r2)) W y)/\Fr (μ (.ref r2)) (3*W) y) (.ref r2):=by
    rw[eM (.ref r2) (λz=>new (ay.mpr (.inr z))) (λz=>new (ay.mpr (.inl (ay.mpr (.inr z)))))];refine ⟨r2,_,rfl,ar2,R2,by rw[cX,ao];lia,λy hy=>⟨λz=>absurd (ay.mpr (.inr z)) new,?_⟩⟩;obtain ⟨j',hj',e⟩:=bX hy;rw[lC,AK] at e;rw[<- e];exact EW hz (c1 _ (aT _)) (c2 _ (aT _))
   walk_at "w";refine fu guh (fE (by lia)) rfl ?_;have Xi:=Xh.set MA rp2 new ii;have kpi:=kph.upd (o:=.lst (us.set ii (.ref r2))) (q:=m) (.inr rfl);have nli:cx K (upd Hh m (.lst (us.set ii (.ref r2)))) ((0 - z:Int):Rat) (.ref lt):=(nl.same sfh).updL guh;have nbi:cx K (upd Hh m (.lst (us.set ii (.ref r2)))) ((z:Int):Rat) (.ref bt):=(nb.same sfh).updL guh;generalize upd Hh m (.lst (us.set ii (.ref r2)))=Hi at Xi kpi nli nbi ⊢;generalize us.set ii (.ref r2)=um at Xi;clear nb nl Xf kpf gu ru e1 e2 g1 p1 g2 p2 R1 R2 Xh kph guh rp2 sg sh sfh new;have gm:=Xi.gm;have lm:=Xi.lm;have gl:=Xi.gl;have nd:=Xi.nd;obtain ⟨nd1,nd2,nd3⟩:=dP.mp nd;walk_at "w";refine kB gm gl (bc (bF (by lia))) λcl Hj sj nj gj=>?_
   have kpj:=kpi.same sj
   have rows:∀x∈um++vs,∀q,x=V.ref q->q≠cl:=λx hx q e y=>by
    obtain ⟨q',zs,_,e',_,g',_⟩:=(Xi.row x (ay.mpr (.inl hx))).at;rw[e] at e';cases e';rw[y,nj] at g';cases g'
   have Xj:=(Xi.same sj).weak (C':=λx y=>(x∈ws->Fr (μ x) W y)/\(x∈(um++vs).drop 0->Fr (μ x) (3*W) y)/\Fr (μ x) (9*W) y) λx _ y h=>⟨h.1,λ_=>h.2,h.2.mono (by lia)⟩
   have lj:cx K Hj ((0 - z:Int):Rat) (.ref lt):=nli.same sj;have bj:cx K Hj ((z:Int):Rat) (.ref bt):=nbi.same sj;clear Xi kpi nli nbi;refine ⟨_,rfl,⟨_,bS.of gj⟩,?_⟩;refine fW (K:=K) (a:=cl) (xs:=um++vs) (λs σ' H'=>∃x6:Option V,σ'=[some (.ref b),some (.ref m),some (.ref p),some (.ref l),some (.int n),some (.int t),some (.int ii),some (.int jj),some (.ref bt),some (.ref lt),x6]/\kW K A H' n (λx y=>(x∈ws->Fr (μ x) W y)/\(x∈(um++vs).drop s->Fr (μ x) (3*W) y)/\Fr (μ x) (9*W) y) m p l b q0 um ws vs/\jr A b m H H'/\H' cl=some (.lst (um++vs))/\cx K H' ((0 - z:Int):Rat) (.ref lt)/\cx K H' ((z:Int):Rat) (.ref bt)) ⟨_,rfl,Xj,kpj,gj,lj,bj⟩ (λs σ' H' _ ⟨_,_,_,_,e,_⟩=>bS.of e) ?_ ?_
   ·rintro s x σ' Hk hx ⟨y6,rfl,Xk,kpk,gk,lk,bk⟩;have hs:s < (um++vs).length:=(aB.mp hx).1;have mx:=aw hx
    have xd:x∈(um++vs).drop s:=by
     rw[eV hs,(aB.mp hx).2];exact .head _
    have xd2:x∉(um++vs).drop (s+1):=λz=>by
     have:=nd1.sublist (List.drop_sublist s _);rw[eV hs,eU,(aB.mp hx).2] at this;exact this.1 z
    have xw:x∉ws:=λz=>nd3 x mx x z rfl
    have rx:=Xk.row x (ay.mpr (.inl mx));obtain ⟨q,zs,qs,rfl,aq,gq,lq,pq,lq2,cq⟩:=rx.at;have qcl:=rows _ mx q rfl;obtain ⟨vj,ej,nj'⟩:=Kt pq (j:=jj) (by lia);obtain ⟨vi,ei,ni'⟩:=Kt pq (j:=ii) (by lia);have cj:=(cq _ (getD_mem (xs:=qs) (i:=jj) (by lia))).2.1 xd;have ci:=(cq _ (getD_mem (xs:=qs) (i:=ii) (by lia))).2.1 xd;walk_at "w";refine cJ (bS.of gq) ej ?_;walk_at "w";refine cJ (bS.of gq) ei ?_;walk_at "w";refine ⟨_,_,_,_,rfl,lk,ni',Ef (by lia),sz9 (by lia) ci,λr3 Hl sl n3=>?_⟩;walk_at "w";refine ⟨_,_,_,_,rfl,nj'.same sl,n3,sz9 (by lia) cj,Bo (by lia) ci (M0 _) (M1 _) (by lia),λr4 Hm sm n4=>?_⟩;have slm:=sl.trans sm;walk_at "w";refine fu (slm _ _ gq) (fE (by lia)) rfl ?_;refine ⟨_,rfl,?_,(kpk.same slm).upd (.inl aq),by rw[bH qcl.symm];exact slm _ _ gk,(lk.same slm).updL (slm _ _ gq),(bk.same slm).updL (slm _ _ gq)⟩;refine ((Xk.same slm).weak λx' _ y h=>⟨h.1,λz=>h.2.1 ?_,h.2.2⟩).put MA aq (slm _ _ gq) n4 ⟨λz=>absurd z xw,λz=>absurd z xd2,?_⟩ jj
    ·rw[eV hs];exact .tail _ z
    ·exact (EW (by lia) cj ci).mono (by lia)
   ·rintro σ' Hk ⟨y6,rfl,Xk,kpk,gk,lk,bk⟩;have gp:=Xk.gp;have Xk2:=Xk.weak (C':=λx y=>(x∈ws.drop 0->Fr (μ x) W y)/\Fr (μ x) (9*W) y) λx _ y h=>⟨λz=>h.1 (by simpa using z),h.2.2⟩
    clear Xk;walk_at "w";refine ⟨⟨_,bS.of gp⟩,?_⟩;refine fW (K:=K) (a:=p) (xs:=ws) (λs σ' H'=>∃x6:Option V,σ'=[some (.ref b),some (.ref m),some (.ref p),some (.ref l),some (.int n),some (.int t),some (.int ii),some (.int jj),some (.ref bt),some (.ref lt),x6]/\kW K A H' n (λx y=>(x∈ws.drop s->Fr (μ x) W y)/\Fr (μ x) (9*W) y) m p l b q0 um ws vs/\jr A b m H H'/\cx K H' ((z:Int):Rat) (.ref bt)) ⟨_,rfl,Xk2,kpk,bk⟩ (λs σ' H' _ ⟨_,_,X,_⟩=>bS.of X.gp) ?_ ?_
    ·rintro s x σ' Hl hx ⟨w6,rfl,Xl,kpl,bl⟩;have hs:s < ws.length:=(aB.mp hx).1;have mx:=aw hx
     have xd:x∈ws.drop s:=by
      rw[eV hs,(aB.mp hx).2];exact .head _
     have xd2:x∉ws.drop (s+1):=λz=>by
      have:=nd2.sublist (List.drop_sublist s _);rw[eV hs,eU,(aB.mp hx).2] at this;exact this.1 z
     have rx:=Xl.row x (ay.mpr (.inr mx));obtain ⟨q,zs,qs,rfl,aq,gq,lq,pq,lq2,cq⟩:=rx.at;obtain ⟨vj,ej,nj'⟩:=Kt pq (j:=jj) (by lia);obtain ⟨vi,ei,ni'⟩:=Kt pq (j:=ii) (by lia);have cj:=(cq _ (getD_mem (xs:=qs) (i:=jj) (by lia))).1 xd;have ci:=(cq _ (getD_mem (xs:=qs) (i:=ii) (by lia))).1 xd;walk_at "w";refine cJ (bS.of gq) ei ?_;walk_at "w";refine cJ (bS.of gq) ej ?_;walk_at "w";refine ⟨_,_,_,_,rfl,bl,nj',Ef (by lia),sz9 (by lia) cj,λr3 Hm sm n3=>?_⟩;walk_at "w";refine ⟨_,_,_,_,rfl,ni'.same sm,n3,sz9 (by lia) ci,Bo (by lia) cj (M0 _) (M1 _) (by lia),λr4 Hn sn n4=>?_⟩;have smn:=sm.trans sn;walk_at "w";refine fu (smn _ _ gq) (fE (by lia)) rfl ?_;refine ⟨_,rfl,?_,(kpl.same smn).upd (.inl aq),(bl.same smn).updL (smn _ _ gq)⟩;refine ((Xl.same smn).weak λx' _ y h=>⟨λz=>h.1 ?_,h.2⟩).put MA aq (smn _ _ gq) n4 ⟨λz=>absurd z xd2,?_⟩ ii
     ·rw[eV hs];exact .tail _ z
     ·exact (EW (by lia) ci cj).mono (by lia)
    ·rintro σ' Hl ⟨w6,rfl,Xl,kpl,bl⟩;refine ⟨_,_,_,_,_,_,um,rfl,Xl.weak λ_ _ y h=>h.2.mono ?_,kpl⟩;rw[<- eW,eK,b6 (9^t) 9,cy];exact ak _
  ·rintro σ' H' ⟨x1,x2,x3,x4,x5,x6,us',rfl,X,kp⟩;walk_at "w";refine bZ λr H2' s' g'=>?_
   exact done r us' H2' _ (by lia) g' (X.same s') (kp.same s')
theorem dN:bu ["_law_bag_here","_law_one","_law_other","_law_ahead","_law_behind","_law_found","_law_k"] ["_law_bag_here"] (ax e8):=by walk_at "d"
theorem yv (T:Txt K mg Z):cK P w K mg base gi 5 Z.jl Z.jf ["_law_bag_here"] (Ni K):=by
 refine T.ma.ok dN (λvs H Q E h=>?_) (λcdv A outer s H vs Q E hr h=>?_)
 ·obtain ⟨b,rfl,_⟩:=h;rfl
 ·obtain ⟨b,rfl,hB,k⟩:=h
  refine ⟨_,(ar (bp (i:=1) dN.nd rfl (Or.inl rfl) (cP (sY T) hr T.oi T.nP.kp T.qM (aa (pv 0) (aa aj ag))))
   (ar (bp (i:=2) dN.nd rfl (Or.inl rfl) (cP (sY T) hr T.oi T.nP.kp T.qM (aa (pv 0) (aa (bL eF aj (cP (aY T) hr T.aQ T.aX.kp T.be (aa (pv 0) (aa aj ag)))) ag))))
   (ar (bp (i:=3) dN.nd rfl (Or.inr rfl) (bL LJ (di (aa (cL (aa aj (aa aj ag))) ag)) aj))
   (ar (bp (i:=4) dN.nd rfl (Or.inr rfl) (bL LJ (di (aa (cL (aa aj (aa aj ag))) ag)) (bD aZ (by rfl) T.len aP (aa (bw bY (pv 2) aj) ag))))
   (ar (bp (i:=5) dN.nd rfl (Or.inl rfl) (di ag))
   (ar (dR PassesOwn.never rfl (cu rfl T.range (aa aj ag)) (aN (i:=6) dN.nd)
    (az (ij (yt dc dm dk kd (pv 5) (aa (bL kG (cC ["_law_row_here"] ["_law_behind"] [4] (cR (bw bY (pv 1) (pv 6))) (λ_=>(aN (i:=0) (show List.Nodup (α:=PySem.Str) ["_law_row_here","_law_behind"] by decide +kernel))) (λ_=>cG) (λ_=>(bL kG (pv 0) (pv 1)))) (cC ["_law_row_here"] ["_law_ahead"] [3] (cR (bw bY (pv 2) (pv 6))) (λ_=>(aN (i:=0) (show List.Nodup (α:=PySem.Str) ["_law_row_here","_law_ahead"] by decide +kernel))) (λ_=>cG) (λ_=>(bL kG (pv 1) (pv 0))))) ag)))))
   (az (aV (cP (xr T) hr T.rK T.oX.kp T.tU (aa (pv 0) (aa (bw bV (pv 5) aj) (aa (bw bV (pv 5) aj) (aa (bw bV (pv 5) aj) ag))))))))))))),?_⟩
  refine aS (σ:=[some (.ref b),none,none,none,none,none,none]) rfl ?_;obtain ⟨q0,I0,xq,gq0⟩:=hB.inner;walk_at "w";refine ⟨b,3,rfl,hB,by decide,by decide,λr1 mv1 pt1 lk1 H1 P1 lm1 lp1 ll1 D1 fm1 fp1 fl1 B1 u1=>?_⟩;walk_at "w";refine ⟨b,3,rfl,B1,by decide,by decide,λv H2 v0 v1 B2 u2=>?_⟩;obtain ⟨v,rfl⟩:=bQ v0;have u02:=u1.trans u2;walk_at "w";rw[show ((3:Int)+(v:Int))=((3+v:Nat):Int) by lia];refine ⟨b,3+v,rfl,B2,by lia,by lia,λr2 mv2 pt2 lk2 H3 P2 lm2 lp2 ll2 D2 fm2 fp2 fl2 B3 u3=>?_⟩;have u03:=u02.trans u3;have P1c:=(P1.upto (u2.trans u3) B1 hB.at);have P2c:eO K H H3 r2 mv2 pt2 lk2:=P2.weak λq h=>u02.none B2 h
  walk_at "w";refine bZ λt0 H4 s4 g4=>?_
  walk_at "w";refine cQ λa1 H5 s5 n5 g5=>?_
  walk_at "w";refine Lr (k:=3) g5 (by decide) λah H6 s6 n6 g6=>?_
  have s36:=(s4.trans s5).trans s6;obtain ⟨m1,p1,l1,gt1,m1n,p1n,l1n,Gm1,Gp1,Gl1⟩:=P1c.same s36;obtain ⟨m2,p2,l2,gt2,m2n,p2n,l2n,Gm2,Gp2,Gl2⟩:=P2c.same s36;have N0:cx K H6 0 (V.ref t0):=cx.mk (q:=0) ((s5.trans s6) _ _ g4) rfl;walk_at "w";refine bZ λt1 H7 s7 g7=>?_
  walk_at "w";refine cQ λa2 H8 s8 n8' g8=>?_
  have s68:=s7.trans s8;have gt2':=s68 _ _ gt2;obtain ⟨um2,gm2,qm2,_⟩:=id (Gm2.same s68);have lum2:=qm2.length;walk_at "w";refine ⟨_,_,rfl,.inl (bS.of gm2),?_⟩;rw[<- lum2,lm2];walk_at "w";refine Lr (k:=3+v) g8 (by lia) λbh H9 s9 n9 g9=>?_
  have s69:=s68.trans s9;have s39:=s36.trans s69;have N1:cx K H9 0 (V.ref t1):=cx.mk (q:=0) ((s8.trans s9) _ _ g7) rfl;have u09:=u03.same s39;have B9:=B3.same s39;have g6':=s69 _ _ g6;have N0':=N0.same s69;walk_at "w";refine cQ λfd H10 s10 n10 g10=>?_
  have X1:∀i:Nat,i < 3->∃q1 R1 q2 R2,[V.ref m1,V.ref p1,V.ref l1][i]?=some (V.ref q1)/\bP K H H9 q1 R1/\(∀xs∈R1,xs.length=3/\∀y∈xs,Fr 1 1 y)/\[V.ref m2,V.ref p2,V.ref l2][i]?=some (V.ref q2)/\bP K H H9 q2 R2/\(∀xs∈R2,xs.length=3+v/\∀y∈xs,Fr 1 1 y)/\R1.length<=100/\R2.length<=100/\[6+v,2,2][i]?=some (R1.length+R2.length):=λi hi=>by
   rcases (show i=0\/i=1\/i=2 by lia) with rfl | rfl | rfl
   ·exact ⟨m1,mv1,m2,mv2,rfl,Gm1.same s69,λxs hx=>⟨by rw[D1.mw xs hx,lm1],fm1 xs hx⟩,rfl,Gm2.same s69,λxs hx=>⟨by rw[D2.mw xs hx,lm2],fm2 xs hx⟩,by lia,by lia,by rw[lm1,lm2,show 3+(3+v)=6+v by lia];rfl⟩
   ·exact ⟨p1,pt1,p2,pt2,rfl,Gp1.same s69,λxs hx=>⟨by rw[D1.pw xs hx,lm1],fp1 xs hx⟩,rfl,Gp2.same s69,λxs hx=>⟨by rw[D2.pw xs hx,lm2],fp2 xs hx⟩,by lia,by lia,by rw[lp1,lp2];rfl⟩
   ·exact ⟨l1,lk1,l2,lk2,rfl,Gl1.same s69,λxs hx=>⟨by rw[D1.lw xs hx,lm1],fl1 xs hx⟩,rfl,Gl2.same s69,λxs hx=>⟨by rw[D2.lw xs hx,lm2],fl2 xs hx⟩,by lia,by lia,by rw[ll1,ll2];rfl⟩
  walk_at "w";refine ⟨by decide,by decide,?_⟩;refine eN (n:=3) (λi σ' H'=>aE H9 H'/\∃x6 L,σ'=[some (.ref b),some (.ref r1),some (.ref r2),some (.ref ah),some (.ref bh),some (.ref fd),x6]/\Sy K H9 H' (6+v) fd L/\L.length=i/\∀(j:Nat) (e:Addr×List V),L[j]?=some e->[6+v,2,2][j]?=some e.2.length) ⟨s10,none,[],rfl,⟨g10,n10,(λ_ z=>nomatch z),rB,(λ_ z=>nomatch z),rB⟩,rfl,λj e h=>by simp at h⟩ ?_ ?_
  ·rintro i σ' H' hi ⟨s',x6,L,rfl,T,lL,hL⟩;obtain ⟨q1,R1,q2,R2,e1,G1,w1,e2,G2,w2,b1,b2,hlen⟩:=X1 i hi;have gt1':=s' _ _ (s69 _ _ gt1);have gt2'':=s' _ _ (s69 _ _ gt2);obtain ⟨ux1,gx1,qx1,_⟩:=id (G1.same s');have gb:=s' _ _ g9;have ga:=s' _ _ g6';walk_at "w";refine ⟨.inl ⟨rfl,_,bS.of T.gf⟩,?_⟩;walk_at "w";refine HQ (lA.of gt1') (fF e1) ?_;walk_at "w";refine ⟨⟨_,bS.of gx1⟩,?_⟩;refine DR (K:=K) (F:=dF K H) (λH'' c x=>∃q,x=V.ref q/\cw K H'' q c) (λr=>r++List.replicate (3+v) 0) gx1 qx1 (by lia) (λa b=>a.same b) (λa b=>by obtain ⟨q,e,r⟩:=a;exact ⟨q,e,r.same b⟩) (λa=>by obtain ⟨q,e,_,gg,_⟩:=a;exact ⟨q,e,by rw[gg];exact λz=>nomatch z⟩) ?_ ?_
   ·rintro j ns x Hi NY NN en si ⟨q,rfl,_,zs,gz,qz⟩ k1;have ws:=(w1 ns (aw en)).1;have lz:=qz.length;walk_at "w";refine kB gz (si _ _ gb) (bc (bF (by rw[aI];lia))) λc Hj sj nj gj=>?_
    exact k1 _ _ sj ⟨c,rfl,_,gj,bW (Paired.imp' (λ_ _ z=>z.same sj) qz) (xT (((N1.same s').same si).same sj) _)⟩ ⟨c,rfl,nj⟩
   rintro ys1 Ha c1 hc1 sa ga1 nd1 ne1 pr1;obtain ⟨ux2,gx2,qx2,_⟩:=id ((G2.same s').same sa);have gt2a:=sa _ _ gt2'';walk_at "w";refine HQ (lA.of gt2a) (fF e2) ?_;walk_at "w";refine ⟨⟨_,bS.of gx2⟩,?_⟩;refine DR (K:=K) (F:=dF K H) (λH'' c x=>∃q,x=V.ref q/\cw K H'' q c) (λr=>List.replicate 3 0++r) gx2 qx2 (by lia) (λa b=>a.same b) (λa b=>by obtain ⟨q,e,r⟩:=a;exact ⟨q,e,r.same b⟩) (λa=>by obtain ⟨q,e,_,gg,_⟩:=a;exact ⟨q,e,by rw[gg];exact λz=>nomatch z⟩) ?_ ?_
   ·rintro j ns x Hi NY NN en si ⟨q,rfl,_,zs,gz,qz⟩ k1;have ws:=(w2 ns (aw en)).1;have lz:=qz.length;walk_at "w";refine kB ((sa.trans si) _ _ ga) gz (bc (bF (by rw[aI];lia))) λc Hj sj nj gj=>?_
    exact k1 _ _ sj ⟨c,rfl,_,gj,bW (xT ((((N0'.same s').same sa).same si).same sj) _) (Paired.imp' (λ_ _ z=>z.same sj) qz)⟩ ⟨c,rfl,nj⟩
   rintro ys2 Hb c2 hc2 sb gb2 nd2 ne2 pr2;have sab:=sa.trans sb;have ly1:=pr1.length;have ly2:=pr2.length;rw[ao] at ly1 ly2;walk_at "w";refine kB (sb _ _ ga1) gb2 (bc (bF (by lia))) λqn Hc sc nc gc=>?_
   have sac:=sab.trans sc;have gfc:=sac _ _ T.gf;walk_at "w";refine ja gfc (bF (by rw[ao];lia)) ?_
   have rP:∀{c:List Rat} {x:V},(∃q,x=V.ref q/\cw K Hb q c)->(∃q,x=V.ref q/\H' q=none)->c.length=6+v->(∀y∈c,Fr 1 1 y)->fO K (λz=>H' z=none/\z≠qn) Hc (6+v) (Fr 1 1) x:=λ⟨q,e,r⟩ ⟨q',e',nq⟩ hl hf=>by
    rw[e] at e';cases e';exact ⟨q,_,e,⟨nq,λz=>by obtain ⟨_,gg,_⟩:=r;rw[z,nc] at gg;cases gg⟩,r.same sc,hl,hf⟩
   refine ⟨(s'.trans sac).after n10,some (.int i),L++[(qn,ys1++ys2)],rfl,T.snoc s' sac (sab.none nc) gc ?_ (λx hx=>?_),by rw[av,bB,lL],λj e he=>?_⟩
   ·refine dP.mpr ⟨nd1,nd2,λx hx y hy z=>?_⟩;obtain ⟨_,_,q,e,_,gg,_⟩:=cM pr1 hx;obtain ⟨q',e',nq,_⟩:=ne2 y hy;rw[<- z,e] at e';cases e';rw[nq] at gg;cases gg
   ·rcases ay.mp hx with hx | hx
    ·obtain ⟨c,mc,q,e,r⟩:=cM pr1 hx;obtain ⟨ns,mn,rfl⟩:=aH.mp mc;obtain ⟨q',e',nq,_⟩:=ne1 x hx;refine rP ⟨q,e,r.same sb⟩ ⟨q',e',nq⟩ (by rw[av,aI,(w1 ns mn).1];lia) λy hy=>?_
     rcases ay.mp hy with hy | hy
     ·exact (w1 ns mn).2 y hy
     ·rw[(dB.mp hy).2];exact Fr.zero
    ·obtain ⟨c,mc,q,e,r⟩:=cM pr2 hx;obtain ⟨ns,mn,rfl⟩:=aH.mp mc;obtain ⟨q',e',nq,_⟩:=ne2 x hx;refine rP ⟨q,e,r⟩ ⟨q',e',sa.none nq⟩ (by rw[av,aI,(w2 ns mn).1];lia) λy hy=>?_
     rcases ay.mp hy with hy | hy
     ·rw[(dB.mp hy).2];exact Fr.zero
     ·exact (w2 ns mn).2 y hy
   ·rcases cN j L.length with z | z
    ·rw[bA z] at he;exact hL j e he
    ·have hj:=(aB.mp he).1;rw[av,bB] at hj;have ej:j=L.length:=by lia
     subst ej;rw[ba (ak _),fP] at he;cases he;rw[lL,hlen,av,ly1,ly2]
  ·rintro σ' H' ⟨s',x6,L,rfl,T,lL,hL⟩
   obtain ⟨⟨m,us⟩,⟨p,ws⟩,⟨l,vs⟩,rfl⟩:∃a b c,L=[a,b,c]:=by
    rcases L with _ | ⟨a,_ | ⟨b,_ | ⟨c,_ | ⟨d,L⟩⟩⟩⟩
    ·cases lL
    ·cases lL
    ·cases lL
    ·exact ⟨a,b,c,rfl⟩
    ·simp at lL
   have lu:us.length=6+v:=by have:=hL 0 _ rfl;simpa using this.symm
   have lw:ws.length=2:=by have:=hL 1 _ rfl;simpa using this.symm
   have lv:vs.length=2:=by have:=hL 2 _ rfl;simpa using this.symm
   have gf:=T.gf;obtain ⟨mn,mf,gm⟩:=T.ls (m,us) (by simp);obtain ⟨pn,pf,gp⟩:=T.ls (p,ws) (by simp);obtain ⟨ln,lf,gl⟩:=T.ls (l,vs) (by simp);have nd:=T.nd;have rw':=T.rows;have rd:=T.rd;clear T hL;have gf:H' fd=some (.lst [.ref m,.ref p,.ref l]):=gf;have nd:[m,p,l].Nodup:=nd;have rd:(us++(ws++(vs++[]))).Nodup:=rd;have u0':=u09.same s';have B':=B9.same s';have hm0:H m=none:=u09.none B9 mn;have hp0:H p=none:=u09.none B9 pn;have hl0:H l=none:=u09.none B9 ln;obtain ⟨A,eA⟩:∃A:Addr->Prop,A=λq=>H q=none/\q≠m/\q≠p/\q≠l:=⟨_,rfl⟩
   have mkA:∀{q},H q=none->q≠m->q≠p->q≠l->A q:=λh1 h2 h3 h4=>by rw[eA];exact ⟨h1,h2,h3,h4⟩
   have unA:∀{q},A q->H q=none/\q≠m/\q≠p/\q≠l:=λh=>by rw[eA] at h;exact h
   have nb:∀{q},H q=none->q≠b:=λh z=>hB.at (by rw[<- z];exact h)
   have MA:Ht A m p l b q0:=⟨λz=>(unA z).2.1 rfl,λz=>(unA z).2.2.1 rfl,λz=>(unA z).2.2.2 rfl,λz=>hB.at (unA z).1,(λz=>by have z1:=(unA z).1;rw[gq0] at z1;cases z1),nb hm0,nb hp0,nb hl0,by intro z;subst z;simp at nd,by intro z;subst z;simp at nd,λz=>by rw[<- z,hm0] at gq0;cases gq0⟩;have X:kW K A H' (6+v) (λ_=>Fr 1 1) m p l b q0 us ws vs:=⟨B',u0'.2 _ I0,gm,gp,gl,lu,λx hx=>?_,?_⟩
   ·walk_at "w";refine ⟨b,m,p,l,q0,6+v,1,λ_=>1,A,us,ws,vs,rfl,MA,X,by lia,by lia,by lia,λ_=>Nat.zero_lt_one,λ_=>jG,⟨1,λ_ _ _=>rfl⟩,by decide,λq hq=>?_,λr us' H'' g Y kp=>?_⟩
    ·exact mkA (u0'.none B' hq) (λz=>by rw[z,gm] at hq;cases hq) (λz=>by rw[z,gp] at hq;cases hq) (λz=>by rw[z,gl] at hq;cases hq)
    ·obtain ⟨mv,Gm,lmv,hmv⟩:=lW (H0:=H) (n:=6+v) (C:=Fr 1 (9^3*1)) (m:=6+v) ⟨us',Y.gm,Y.lm,MA.am,λx hx=>Y.row x (by simp [hx])⟩ λq h=>(unA h).1
     obtain ⟨pt,Gp,lpt,hpt⟩:=lW (H0:=H) (n:=6+v) (C:=Fr 1 (9^3*1)) (m:=2) ⟨ws,Y.gp,lw,MA.ap,λx hx=>Y.row x (by simp [hx])⟩ λq h=>(unA h).1
     obtain ⟨lk,Gl,llk,hlk⟩:=lW (H0:=H) (n:=6+v) (C:=Fr 1 (9^3*1)) (m:=2) ⟨vs,Y.gl,lv,MA.al,λx hx=>Y.row x (by simp [hx])⟩ λq h=>(unA h).1
     refine k r mv pt lk H'' ⟨m,p,l,g,hm0,hp0,hl0,Gm,Gp,Gl⟩ (by lia) ⟨by lia,by lia,by lia,λxs hx=>by rw[(hmv xs hx).1,lmv],λxs hx=>by rw[(hpt xs hx).1,lmv],λxs hx=>by rw[(hlk xs hx).1,lmv]⟩ (λxs hx=>(hmv xs hx).2) (λxs hx=>(hpt xs hx).2) (λxs hx=>(hlk xs hx).2) Y.bag ⟨λc' u e n1=>kp c' u (u0'.1 _ _ e n1) n1 (λz=>by have:=(unA z).1;rw[e] at this;cases this) (λz=>by rw[z,hm0] at e;cases e),λq h=>by rw[<- Inner.inj I0 h];exact Y.inn⟩
   ·have hx:∃e∈[(m,us),(p,ws),(l,vs)],x∈e.2:=by
     rcases ay.mp hx with hx | hx
     ·rcases ay.mp hx with hx | hx
      ·exact ⟨(m,us),by simp,hx⟩
      ·exact ⟨(l,vs),by simp,hx⟩
     ·exact ⟨(p,ws),by simp,hx⟩
    obtain ⟨e,he,hx⟩:=hx;refine (rw' e he x hx).weak (λq hq=>?_) (λ_ w=>w);obtain ⟨⟨h1,_⟩,h2⟩:=hq;have h2:q∉[m,p,l]:=h2;simp only[aD,aO,or_false,not_or] at h2;exact mkA (u09.none B9 h1) h2.1 h2.2.1 h2.2.2
   ·rw[oY] at rd
    have e:(us++vs++ws).Perm (us++(ws++vs)):=by
     rw[cF];exact List.Perm.append_left _ List.perm_append_comm
    exact e.nodup_iff.mpr rd
theorem uZ:bu ["_law_bag_here","_law_wide","_law_way"] ["_law_bag_here","_law_wide"] (ax h8):=by walk_at "d"
theorem BW (T:Txt K mg Z):cK P w K mg base gi 2 Z.mY Z.mK ["_law_bag_here","_law_wide"] (Bu K):=by
 refine T.rT.ok uZ (λvs H Q E h=>?_) (λcdv A outer s H vs Q E hr h=>?_)
 ·obtain ⟨b,w,rfl,_⟩:=h;rfl
 ·obtain ⟨b,w,rfl,hB,w0,w1,k⟩:=h
  refine ⟨_,(ar (bp (i:=2) uZ.nd rfl (Or.inl rfl) (cP (aY T) hr T.aQ T.aX.kp T.be (aa (pv 0) (aa aj ag))))
   (ar (cO (bC xm (pv 2) aj (bK _)) (az (aV (cL (aa aj (aa aj ag))))) bT)
   (ar (cO (bC xm (pv 2) aj (bK _)) (az (aV (cL (aa (bL lU (cP (aY T) hr T.aQ T.aX.kp T.be (aa (pv 0) (aa aj ag))) aj) (aa aj ag))))) bT)
   (ar (cO (bC fq (pv 2) aj (bK _)) (az (aV (cP (ka T) hr T.iH T.iL.kp T.jN (aa (bL lU (cP (aY T) hr T.aQ T.aX.kp T.be (aa (pv 0) (aa aj ag))) aj) (aa (bL eF aj (cP (aY T) hr T.aQ T.aX.kp T.be (aa (pv 0) (aa aj ag)))) ag))))) bT)
   (az (aV (cP (ka T) hr T.iH T.iL.kp T.jN (aa (bL lU (cP (aY T) hr T.aQ T.aX.kp T.be (aa (pv 0) (aa (bL eF (bL dq aj (pv 1)) aj) ag))) (pv 1)) (aa (bL eF aj (cP (aY T) hr T.aQ T.aX.kp T.be (aa (pv 0) (aa (pv 1) ag)))) ag))))))))),?_⟩
  refine aS (σ:=[some (.ref b),some (.int w),none]) rfl ?_;walk_at "w";refine ⟨b,8,rfl,hB,by decide,by decide,λv H1 v0 v1 B1 u1=>?_⟩;walk_at "w";refine iB (λh0=>?_) (λh0=>?_)
  ·walk_at "w";refine bZ λr H2 s2 g2=>?_
   exact k r 0 _ ⟨bx _,by show 1<=_;lia⟩ (cx.mk g2 rfl) (B1.same s2) (u1.same s2)
  walk_at "w";refine iB (λh1=>?_) (λh1=>?_)
  ·walk_at "w";refine ⟨b,7,rfl,B1,by decide,by decide,λa H2 a0 a1 B2 u2=>?_⟩;walk_at "w";refine bZ λr H3 s3 g3=>?_
   exact k r ((a - 3:Int):Rat) _ ⟨by show (a - 3).natAbs<=_;lia,by show 1<=_;lia⟩ (cx.mk g3 rfl) (B2.same s3) ((u1.trans u2).same s3)
  walk_at "w";refine iB (λh2=>?_) (λh2=>?_)
  ·walk_at "w";refine ⟨b,13,rfl,B1,by decide,by decide,λa H2 a0 a1 B2 u2=>?_⟩;walk_at "w";refine ⟨b,6,rfl,B2,by decide,by decide,λc H3 c0 c1 B3 u3=>?_⟩;walk_at "w";refine ⟨_,_,rfl,by lia,(La (by lia)).mono (by decide),λr H4 s4 g4=>?_⟩;obtain ⟨q,e,d,_⟩:=LZ (t:=a - 6) (b:=1+c) (W:=max w 6) (by lia) (by lia) (by lia);exact k r q _ d (cx.mk g4 e) (B3.same s4) (((u1.trans u2).trans u3).same s4)
  walk_at "w";refine ⟨b,_,rfl,B1,by lia,by lia,λa H2 a0 a1 B2 u2=>?_⟩;walk_at "w";refine ⟨b,_,rfl,B2,by lia,by lia,λc H3 c0 c1 B3 u3=>?_⟩;walk_at "w";refine ⟨_,_,rfl,by lia,(La (by lia)).mono (by decide),λr H4 s4 g4=>?_⟩;obtain ⟨q,e,d,_⟩:=LZ (t:=a - w) (b:=1+c) (W:=max w 6) (by lia) (by lia) (by lia);exact k r q _ d (cx.mk g4 e) (B3.same s4) (((u1.trans u2).trans u3).same s4)
theorem FY:bu ["_law_bag_here","_law_many","_law_wide"] ["_law_bag_here","_law_many","_law_wide"] (ax lJ):=by walk_at "d"
theorem j9 (T:Txt K mg Z):cK P w K mg base gi 3 Z.tZ Z.tH ["_law_bag_here","_law_many","_law_wide"] (FR K):=by
 refine T.gN.ok FY (λvs H Q E h=>?_) (λcdv A outer s H vs Q E hr h=>?_)
 ·obtain ⟨b,m,w,rfl,_⟩:=h;rfl
 ·obtain ⟨b,m,w,rfl,hB,hm,w0,w1,k⟩:=h;refine ⟨_,(az (aV (cC ["_law_k"] ["_law_bag_here","_law_wide"] [0,2] (cu rfl T.range (aa (pv 1) ag)) (λ_=>(aN (i:=0) (show List.Nodup (α:=PySem.Str) ["_law_k","_law_bag_here","_law_wide"] by decide +kernel))) (λ_=>cG) (λ_=>(cP (BW T) hr T.vA T.rT.kp T.xJ (aa (pv 1) (aa (pv 2) ag))))))),?_⟩;refine aS (σ:=[some (.ref b),some (.int m),some (.int w)]) rfl ?_;walk_at "w";refine ⟨by lia,by lia,?_⟩;refine zY (n:=m) (cx K) (Dr (max w 6)) hB hm (λa u B=>a.upto u B) ?_ ?_
  ·rintro i H' NY NN hi u B k1;walk_at "w";exact ⟨b,w,rfl,B,w0,w1,λr x H2 hx h2 B2 u2=>k1 _ x _ u2 B2 hx h2⟩
  ·rintro ys cs H' p hp u B g lc hc pr nx;exact k p cs H' hp ⟨ys,g,pr⟩ lc hc B u
theorem kz:bu ["_law_bag_here","_law_n","_law_way","_law_first","_law_wide","_law_move_here","_law_i","_law_row_here","_law_j"] ["_law_bag_here","_law_n","_law_way","_law_first","_law_wide"] (ax jZ):=by walk_at "d"
theorem EI (T : Txt K mg Z) : cK P w K mg base gi 4 Z.qZ Z.qD ["_law_bag_here", "_law_n", "_law_way", "_law_first", "_law_wide"] (FL K) := by
  have uh := j9 (P := P) (w := w) (base := base) T;have kh := aY (P := P) (w := w) (base := base) T;refine T.vU.ok kz (λvs H Q E h => ?_) (λcdv A outer s H vs Q E hr h => ?_)
  · obtain ⟨b, n, w, way, first, rfl, _⟩ := h;rfl
  · obtain ⟨b, n, w, way, first, rfl, hB, n8, w0, w1, k⟩ := h
    refine ⟨_, (ar (bp (i := 5) kz.nd rfl (Or.inl rfl) (di ag))
      (ar (dR PassesOwn.never rfl (cu rfl T.range (aa (pv 1) ag)) (aN (i := 6) kz.nd)
        (ar (bp (i := 7) kz.nd rfl (Or.inl rfl) (cP uh hr T.gE T.gN.kp T.iK (aa (pv 0) (aa (pv 1) (aa (pv 4) ag)))))
      (ar (dR PassesOwn.never rfl (cu rfl T.range (aa (pv 1) ag)) (aN (i := 8) kz.nd)
        (jb (cO (PW.pt (kD (bC fq (pv 2) aj (bK _)) (mB (bC xn (cP kh hr T.aQ T.aX.kp T.be (aa (pv 0) (aa aj ag))) aj (bK _))))) (az (fz (cL (aa aj (aa aj ag))) (ic (pv 7) (pv 8) set_list))) bT)
      (jb (cO (PW.pt (kD (bC fq (pv 2) aj (bK _)) (mB (bC xm (bL eF (pv 6) aj) (pv 1) (bK _))))) (az (fz (cL (aa (d5 sA (by rfl) T.int PyProof.Rows.boot_int (aa (jC fq (pv 8) (bL eF (pv 6) aj) (bK _)) ag)) (aa aj ag))) (ic (pv 7) (pv 8) set_list))) bT)
      (jb (cO (PW.pt (lB (PW.pt (kD (bC fq (pv 2) aj (bK _)) (kD (bC DF (pv 6) (pv 3) (bK _)) (mB (bC xm (pv 8) (pv 3) (bK _)))))) (kC (PW.pt (kD (bC fq (pv 2) aj (bK _)) (kD (bC xm (pv 6) (pv 3) (bK _)) (mB (bC DF (pv 8) (pv 3) (bK _))))))))) (az (fz (cL (aa aj (aa aj ag))) (ic (pv 7) (pv 8) set_list))) bT)
      (az (cO (bC fq (pv 2) aj (bK _)) (az (fz (cL (aa (bL dq (bw bV (di (aa aj (aa aj (aa (Aj uQ aj) (aa aj ag))))) (bL rE (pv 3) aj)) (d5 sA (by rfl) T.int PyProof.Rows.boot_int (aa (jC fq (pv 6) (pv 8) (bK _)) ag))) (aa aj ag))) (ic (pv 7) (pv 8) set_list))) bT))))))
      (az (ij (yt dc dm dk kd (pv 5) (aa (pv 7) ag)))))))
      (az (aV (pv 5))))), ?_⟩
    refine aS (σ := [some (.ref b), some (.int n), some (.int way), some (.int first), some (.int w), none, none, none, none]) rfl ?_;have W1 : 1 ≤ max w 6 := by lia
    walk_at "w";refine cQ λr H1 s1 n1 g1 => ?_
    have rb : r ≠ b := λz => hB.at (by rw [<- z]; exact n1)
    obtain ⟨q0, I0, xs0, gq0⟩ := hB.inner;have I1 : Inner H1 b q0 := (s1.upto (p := b)).2 _ I0;obtain ⟨A, eA⟩ : ∃ A : Addr → Prop, A = λq => H q = none /\ q ≠ r := ⟨_, rfl⟩
    have nb : ¬ A b := by rw [eA]; exact λz => hB.at z.1
    have nr : ¬ A r := by rw [eA]; exact λz => z.2 rfl
    have nq : ¬ A q0 := by rw [eA]; exact λz => by have z1 := z.1; rw [gq0] at z1; cases z1
    have rq : r ≠ q0 := λz => by rw [<- z, n1] at gq0; cases gq0
    walk_at "w";refine ⟨by lia, by lia, ?_⟩;refine eN (n := n) (λi σ' H' => ∃ (x1 x2 x3 : Option V) (us : List V), σ' = [some (.ref b), some (.int n), some (.int way), some (.int first), some (.int w), some (.ref r), x1, x2, x3] /\ H' r = some (.lst us) /\ us.length = i /\ us.Nodup /\ (∀ x ∈ us, fO K A H' n (Dr (max w 6)) x) /\ iC H' b /\ Inner H' b q0 /\ cV b H H') ⟨none, none, none, [], rfl, g1, rfl, rB, (λ_ z => nomatch z), hB.same s1, I1, s1.upto⟩ ?_ ?_
    · rintro i σ' H' hi ⟨x1, x2, x3, us, rfl, gu, lu, nd, ru, B', I', u'⟩;walk_at "w";refine ⟨b, n, w, rfl, B', by lia, w0, w1, λp xs Ha np Ra la da Ba ua => ?_⟩;have hp0 : H p = none := u'.none B' np
      have pn : V.ref p ∉ us := λz => by
        obtain ⟨q', _, _, e', _, g', _⟩ := (ru _ z).at;cases e';rw [np] at g';cases g'
      have ap' : H p = none /\ p ≠ r := ⟨hp0, λz => by rw [z, gu] at np; cases np⟩;have ap : A p := by rw [eA]; exact ap'
      have X0 : JL K A n (Dr (max w 6)) r p b q0 us H Ha := ⟨ua.other rb gu, λx hx => (ru x hx).upto ua B' nb, ⟨p, xs, rfl, ap, Ra, la, da⟩, Ba, ua.2 _ I', u'.trans ua⟩;clear ru Ra gu;walk_at "w";refine ⟨by lia, by lia, ?_⟩;refine eN (n := n) (λj σ' H' => (∃ x3, σ' = [some (.ref b), some (.int n), some (.int way), some (.int first), some (.int w), some (.ref r), some (.int i), some (.ref p), x3]) /\ JL K A n (Dr (max w 6)) r p b q0 us H H') ⟨⟨_, rfl⟩, X0⟩ ?_ ?_
      · rintro j σ' Hj hj ⟨⟨x3, rfl⟩, X⟩;walk_at "w";refine ⟨λσ' H' => σ' = [some (.ref b), some (.int n), some (.int way), some (.int first), some (.int w), some (.ref r), some (.int i), some (.ref p), some (.int j)] /\ JL K A n (Dr (max w 6)) r p b q0 us H H', ?_, ?_⟩
        · walk_at "w";refine iB (λ_ => ?_) (λ_ => ?_)
          · walk_at "w";refine ⟨b, 3, rfl, X.bag, by decide, by decide, λd Hd d0 d1 Bd ud => ?_⟩;replace X := X.upto ud Bd nb rb
            repeat' (first | walk_at "rd" | refine iB (λ_ => ?_) (λ_ => ?_))
            all_goals first
              | exact ⟨rfl, X⟩
              | (refine bZ λt Hb sb gb => ?_
                 walk_at "w";obtain ⟨zs, gz, lz, Xz⟩ := (X.same sb).put ap nr nb nq hp0 (cx.mk (q := 0) gb rfl) (vE (i := 0) (bx _) W1) j;refine fu gz (fE (by lia)) rfl ?_;exact ⟨rfl, Xz⟩)
          · walk_at "w";exact ⟨rfl, X⟩
        clear X;rintro σ' Hj ⟨rfl, X⟩;refine ⟨λσ' H' => σ' = [some (.ref b), some (.int n), some (.int way), some (.int first), some (.int w), some (.ref r), some (.int i), some (.ref p), some (.int j)] /\ JL K A n (Dr (max w 6)) r p b q0 us H H', ?_, ?_⟩
        · repeat' (first | walk_at "rd" | refine iB (λ_ => ?_) (λ_ => ?_))
          all_goals first
            | exact ⟨rfl, X⟩
            | (refine bZ λt Hb sb gb => ?_
               walk_at "w";obtain ⟨zs, gz, lz, Xz⟩ := (X.same sb).put ap nr nb nq hp0 (cx.mk (q := ((if decide ((j : Int) = (i : Int) + 1) = true then (1 : Int) else 0 : Int) : Rat)) gb rfl) (vE (by split <;> lia) W1) j;refine fu gz (fE (by lia)) rfl ?_;exact ⟨rfl, Xz⟩)
        clear X;rintro σ' Hj ⟨rfl, X⟩;refine ⟨λσ' H' => σ' = [some (.ref b), some (.int n), some (.int way), some (.int first), some (.int w), some (.ref r), some (.int i), some (.ref p), some (.int j)] /\ JL K A n (Dr (max w 6)) r p b q0 us H H', ?_, ?_⟩
        · repeat' (first | walk_at "rd" | refine iB (λ_ => ?_) (λ_ => ?_))
          all_goals first
            | exact ⟨rfl, X⟩
            | (refine bZ λt Hb sb gb => ?_
               walk_at "w";obtain ⟨zs, gz, lz, Xz⟩ := (X.same sb).put ap nr nb nq hp0 (cx.mk (q := 0) gb rfl) (vE (i := 0) (bx _) W1) j;refine fu gz (fE (by lia)) rfl ?_;exact ⟨rfl, Xz⟩)
        clear X;rintro σ' Hj ⟨rfl, X⟩;walk_at "w";refine iB (λ_ => ?_) (λ_ => ?_)
        · walk_at "w";refine cQ λl0 Hc sc nc gc => ?_
          walk_at "w";obtain ⟨x, ex, mx, _⟩ := nK (xs := [V.int 2, V.int 1, V.int (-1), V.int 0]) (i := first % 4) (oZ _ (by decide)) (by have := jH first (show (0 : Int) < 4 by decide); simpa using this)
          obtain ⟨z, rfl, hz⟩ : ∃ z : Int, x = .int z /\ z.natAbs ≤ 2 := by
            simp only [aD, aO, or_false] at mx;rcases mx with rfl | rfl | rfl | rfl
            · exact ⟨2, rfl, by decide⟩
            · exact ⟨1, rfl, by decide⟩
            · exact ⟨-1, rfl, by decide⟩
            · exact ⟨0, rfl, by decide⟩
          refine cJ (bS.of gc) ex ?_;walk_at "w";refine gL (E8 (by lia) (by lia)) ?_;walk_at "w";refine bZ λt Hb sb gb => ?_
          walk_at "w";obtain ⟨zs, gz, lz, Xz⟩ := ((X.same sc).same sb).put ap nr nb nq hp0 (cx.mk (q := ((z * (if decide ((i : Int) = (j : Int)) = true then (1 : Int) else 0) : Int) : Rat)) gb rfl) (vE (by split <;> lia) W1) j;refine fu gz (fE (by lia)) rfl ?_;exact ⟨⟨_, rfl⟩, Xz⟩
        · walk_at "w";exact ⟨⟨_, rfl⟩, X⟩
      · rintro σ' Hj ⟨⟨x3, rfl⟩, X⟩;walk_at "w";refine ⟨.inl ⟨rfl, _, bS.of X.gr⟩, ?_⟩;walk_at "w";refine ja X.gr (bF (by lia)) ?_;refine ⟨_, _, _, us ++ [.ref p], rfl, aK, by simp [lu], td nd pn, λx hx => ?_, X.bag.upd X.inn rb rq, X.inn.upd rb, X.up.after n1⟩;rcases ay.mp hx with hx | hx
        · exact (X.ru x hx).other X.gr nr
        · have e : x = V.ref p := by simpa using hx
          rw [e]; exact X.rp.other X.gr nr
    · rintro σ' H' ⟨x1, x2, x3, us, rfl, gu, lu, nd, ru, B', I', u'⟩;walk_at "w";exact k r us H' n1 gu lu nd (by rw [eA] at ru; exact ru) B' u'
theorem eo:bu ["_law_bag_here","_law_n","_law_ins","_law_outs","_law_wide","_law_way","_law_first","_law_move_here","_law_put","_law_look","_law_k","_law_row_here"] ["_law_bag_here","_law_n","_law_ins","_law_outs","_law_wide"] (ax iW):=by walk_at "d"
theorem C2 (T : Txt K mg Z) : cK P w K mg base gi 5 Z.oQ Z.oA ["_law_bag_here", "_law_n", "_law_ins", "_law_outs", "_law_wide"] (Dq K) := by
  have kh := aY (P := P) (w := w) (base := base) T;have Hu := EI (P := P) (w := w) (base := base) T;have uh := j9 (P := P) (w := w) (base := base) T;have Fn := xr (P := P) (w := w) (base := base) T;refine T.uv.ok eo (λvs H Q E h => ?_) (λcdv A outer s H vs Q E hr h => ?_)
  · obtain ⟨b, n, i, o, w, c, rfl, _⟩ := h;rfl
  · obtain ⟨b, n, i, o, w, c, rfl, hB, n8, i4, o4, w0, w1, hc, hc20, hcM, k⟩ := h
    refine ⟨_, (ar (bp (i := 5) eo.nd rfl (Or.inl rfl) (cP kh hr T.aQ T.aX.kp T.be (aa (pv 0) (aa aj ag))))
      (ar (bp (i := 6) eo.nd rfl (Or.inl rfl) (cP kh hr T.aQ T.aX.kp T.be (aa (pv 0) (aa (bL eF (pv 1) aj) ag))))
      (ar (bp (i := 7) eo.nd rfl (Or.inl rfl) (cP Hu hr T.yD T.vU.kp T.Aw (aa (pv 0) (aa (pv 1) (aa (pv 5) (aa (pv 6) (aa (pv 4) ag)))))))
      (ar (pY 8 ["_law_k"] ["_law_bag_here", "_law_n", "_law_wide"] [0, 1, 4] eo.nd rfl rfl (cu rfl T.range (aa (pv 2) ag)) (λ_ => (aN (i := 0) (show List.Nodup (α := PySem.Str) ["_law_k", "_law_bag_here", "_law_n", "_law_wide"] by decide +kernel))) (λ_ => cG) (λ_ => (cP uh hr T.gE T.gN.kp T.iK (aa (pv 1) (aa (pv 2) (aa (pv 3) ag))))))
      (ar (pY 9 ["_law_k"] ["_law_bag_here", "_law_n", "_law_wide"] [0, 1, 4] eo.nd rfl rfl (cu rfl T.range (aa (pv 3) ag)) (λ_ => (aN (i := 0) (show List.Nodup (α := PySem.Str) ["_law_k", "_law_bag_here", "_law_n", "_law_wide"] by decide +kernel))) (λ_ => cG) (λ_ => (cP uh hr T.gE T.gN.kp T.iK (aa (pv 1) (aa (pv 2) (aa (pv 3) ag))))))
      (ar (dR PassesOwn.never rfl (cu rfl T.range (aa (pv 1) ag)) (aN (i := 10) eo.nd)
        (ar (dR PassesOwn.never rfl (cR (pv 8)) (aN (i := 11) eo.nd)
        (az (cO (PW.pt (lB (PW.pt (kD (bC fq (pv 5) aj (bK _)) (mB (bC DF (pv 10) (pv 6) (bK _))))) (kC (PW.pt (kD (bC fq (pv 5) aj (bK _)) (kD (bC xm (bL eF (pv 10) aj) (pv 1) (bK _)) (mB (bC fq (cP kh hr T.aQ T.aX.kp T.be (aa (pv 0) (aa aj ag))) aj (bK _))))))))) (az (fz (cL (aa aj (aa aj ag))) (ic (pv 11) (pv 10) set_list))) bT)))
      (az (dR PassesOwn.never rfl (cR (pv 9)) (aN (i := 11) eo.nd)
        (az (cO (PW.pt (lB (PW.pt (kD (bC fq (pv 5) aj (bK _)) (mB (bC DF (pv 10) (pv 6) (bK _))))) (kC (PW.pt (kD (bC fq (pv 5) aj (bK _)) (kD (bC xn (pv 10) aj (bK _)) (mB (bC fq (cP kh hr T.aQ T.aX.kp T.be (aa (pv 0) (aa aj ag))) aj (bK _))))))))) (az (fz (cL (aa aj (aa aj ag))) (ic (pv 11) (pv 10) set_list))) bT))))))
      (az (aV (cP Fn hr T.rK T.oX.kp T.tU (aa (pv 0) (aa (pv 7) (aa (pv 8) (aa (pv 9) ag))))))))))))), ?_⟩
    refine aS (σ := [some (.ref b), some (.int n), some (.int i), some (.int o), some (.int w), none, none, none, none, none, none, none]) rfl ?_;have W1 : 1 ≤ max w 6 := by lia
    obtain ⟨q0, I0, xs0, gq0⟩ := hB.inner;walk_at "w";refine ⟨b, 6, rfl, hB, by decide, by decide, λway H1 a0 a1 B1 u1 => ?_⟩;walk_at "w";refine ⟨b, _, rfl, B1, by lia, by lia, λfirst H2 f0 f1 B2 u2 => ?_⟩;have u02 := u1.trans u2;walk_at "w";refine ⟨b, n, w, way, first, rfl, B2, n8, w0, w1, λm us H3 nm0 gm lm ndm rm B3 u3 => ?_⟩;have u03 := u02.trans u3;walk_at "w";refine ⟨by lia, by lia, ?_⟩;refine DT (n := i) (b := b) (dF K H3) (λxs => xs.length = n /\ ∀ x ∈ xs, Dr (max w 6) x) B3 (by lia) (λa u B => a.upto u B B3.at) (λ⟨q, e, _, _, g, _⟩ => ⟨q, e, by rw [g]; exact λz => nomatch z⟩) ?_ ?_
    · rintro s H' NY NN hi u B k1;walk_at "w";exact ⟨b, n, w, rfl, B, by lia, w0, w1, λr xs H2 nr R lx dx B2 u2 => k1 _ xs _ u2 B2 ⟨lx, dx⟩ ⟨r, rfl, u.none B nr, R⟩ ⟨r, rfl, nr⟩⟩
    rintro ws puts H4 p np u4 B4 gp lp ndp hp pr4 nx4;have u04 := u03.trans u4;walk_at "w";refine ⟨by lia, by lia, ?_⟩;refine DT (n := o) (b := b) (dF K H4) (λxs => xs.length = n /\ ∀ x ∈ xs, Dr (max w 6) x) B4 (by lia) (λa u B => a.upto u B B4.at) (λ⟨q, e, _, _, g, _⟩ => ⟨q, e, by rw [g]; exact λz => nomatch z⟩) ?_ ?_
    · rintro s H' NY NN hi u B k1;walk_at "w";exact ⟨b, n, w, rfl, B, by lia, w0, w1, λr xs H2 nr R lx dx B2 u2 => k1 _ xs _ u2 B2 ⟨lx, dx⟩ ⟨r, rfl, u.none B nr, R⟩ ⟨r, rfl, nr⟩⟩
    rintro vs looks H5 l nl u5 B5 gl ll ndl hl pr5 nx5;have u05 := u04.trans u5;have hm0 : H m = none := u02.none B2 nm0;have hp0 : H p = none := u03.none B3 np;have hl0 : H l = none := u04.none B4 nl;have mb : m ≠ b := λz => B2.at (by rw [<- z]; exact nm0)
    have pb : p ≠ b := λz => B3.at (by rw [<- z]; exact np)
    have lb : l ≠ b := λz => B4.at (by rw [<- z]; exact nl)
    have gm4 := u4.other mb gm;have gm5 := u5.other mb gm4;have gp5 := u5.other pb gp;have mp : m ≠ p := λz => by rw [z, np] at gm; cases gm
    have ml : m ≠ l := λz => by rw [z, nl] at gm4; cases gm4
    have pl : p ≠ l := λz => by rw [z, nl] at gp; cases gp
    have mq : m ≠ q0 := λz => Inner.at B2 (u02.2 _ I0) (by rw [<- z]; exact nm0)
    obtain ⟨A, eA⟩ : ∃ A : Addr → Prop, A = λq => H q = none /\ q ≠ m /\ q ≠ p /\ q ≠ l := ⟨_, rfl⟩
    have mkA : ∀ {q}, H q = none → q ≠ m → q ≠ p → q ≠ l → A q := λh1 h2 h3 h4 => by rw [eA]; exact ⟨h1, h2, h3, h4⟩
    have unA : ∀ {q}, A q → H q = none /\ q ≠ m /\ q ≠ p /\ q ≠ l := λh => by rw [eA] at h; exact h
    have MA : Ht A m p l b q0 := ⟨λz => (unA z).2.1 rfl, λz => (unA z).2.2.1 rfl, λz => (unA z).2.2.2 rfl, λz => hB.at (unA z).1, (λz => by have z1 := (unA z).1; rw [gq0] at z1; cases z1), mb, pb, lb, mp, ml, mq⟩;clear eA;have lws : ws.length = i := by rw [<- pr4.length]; exact lp
    have lvs : vs.length = o := by rw [<- pr5.length]; exact ll
    have alM : ∀ q, V.ref q ∈ us → H3 q ≠ none /\ q ≠ b /\ H4 q ≠ none := λq hq => by
      obtain ⟨q', qs, e, ⟨a1, a2⟩, r, z⟩ := rm _ hq;cases e;have qb : q ≠ b := λy => B2.at (by rw [<- y]; exact a1)
      obtain ⟨xq, gq, _⟩ := id r;obtain ⟨xq4, gq4, _⟩ := r.upto u4 B3 qb;exact ⟨(by rw [gq]; exact λz => nomatch z), qb, (by rw [gq4]; exact λz => nomatch z)⟩
    have alP : ∀ q, V.ref q ∈ ws → H3 q = none /\ H4 q ≠ none := λq hq => by
      obtain ⟨_, _, q', e, a, _, g, _⟩ := cM pr4 hq;cases e;exact ⟨a, by rw [g]; exact λz => nomatch z⟩
    have alL : ∀ q, V.ref q ∈ vs → H4 q = none := λq hq => by
      obtain ⟨_, _, q', e, a, _⟩ := cM pr5 hq;cases e;exact a
    have isR : ∀ x, x ∈ us \/ x ∈ ws \/ x ∈ vs → ∃ q, x = V.ref q := λx hx => by
      rcases hx with hx | hx | hx
      · obtain ⟨q, _, e, _⟩ := rm x hx; exact ⟨q, e⟩
      · obtain ⟨_, _, q, e, _⟩ := cM pr4 hx; exact ⟨q, e⟩
      · obtain ⟨_, _, q, e, _⟩ := cM pr5 hx; exact ⟨q, e⟩
    have nd : (us ++ vs ++ ws).Nodup := by
      refine dP.mpr ⟨dP.mpr ⟨ndm, ndl, λx hx y hy e => ?_⟩, ndp, λx hx y hy e => ?_⟩
      · subst e;obtain ⟨q, rfl⟩ := isR x (.inl hx);exact (alM q hx).2.2 (alL q hy)
      · subst e;obtain ⟨q, rfl⟩ := isR x (.inr (.inl hy));rcases ay.mp hx with hx | hx
        · exact (alM q hx).1 (alP q hy).1
        · exact (alP q hy).2 (alL q hx)
    have X5 : IE K A n (Dr (max w 6)) m p l b q0 us ws vs H H5 := by
      refine ⟨⟨B5, u05.2 _ I0, gm5, gp5, gl, lm, λx hx => ?_, nd⟩, gp5, gl, λc u e n1 _ _ => u05.1 c u e n1⟩;rcases ay.mp hx with hx | hx
      · rcases ay.mp hx with hx | hx
        · obtain ⟨q, qs, e, ⟨a1, a2⟩, r, z⟩ := rm x hx;obtain ⟨xq, gq, _⟩ := id r;have qb : q ≠ b := λy => B2.at (by rw [<- y]; exact a1)
          have r4 := r.upto u4 B3 qb;obtain ⟨xq4, gq4, _⟩ := id r4;exact ⟨q, qs, e, mkA (u02.none B2 a1) a2 (λy => by rw [y, np] at gq; cases gq) (λy => by rw [y, nl] at gq4; cases gq4), r4.upto u5 B4 qb, z⟩
        · refine Lo (A := A) pr5 hl (λq hq a b' => ?_) x hx;exact mkA (u04.none B4 a) (λy => by rw [y, gm4] at a; cases a) (λy => by rw [y, gp] at a; cases a) (λy => nZ nx5 (by rw [<- y]; exact hq))
      · refine fO.upto (Lo (A := A) pr4 hp (λq hq a b' => ?_) x hx) u5 B4 MA.ab;exact mkA (u03.none B3 a) (λy => by rw [y, gm] at a; cases a) (λy => nZ nx4 (by rw [<- y]; exact hq)) (λy => b' (by rw [y]; exact nl))
    clear alM alP alL isR rm pr4 pr5 nx4 nx5 gm gm4 gm5 gp gp5 gl hp hl;walk_at "w";refine ⟨by lia, by lia, ?_⟩;refine eN (n := n) (λkk σ' H' => (∃ x1 x2, σ' = [some (.ref b), some (.int n), some (.int i), some (.int o), some (.int w), some (.int way), some (.int first), some (.ref m), some (.ref p), some (.ref l), x1, x2]) /\ IE K A n (Dr (max w 6)) m p l b q0 us ws vs H H') ⟨⟨_, _, rfl⟩, X5⟩ ?_ ?_
    · rintro kk σ' Hj hk ⟨⟨x1, x2, rfl⟩, X⟩;walk_at "w";refine ⟨⟨_, bS.of X.gp⟩, ?_⟩;refine fW (K := K) (a := p) (xs := ws) (λs σ' H' => (∃ x2, σ' = [some (.ref b), some (.int n), some (.int i), some (.int o), some (.int w), some (.int way), some (.int first), some (.ref m), some (.ref p), some (.ref l), some (.int kk), x2]) /\ IE K A n (Dr (max w 6)) m p l b q0 us ws vs H H') ⟨⟨_, rfl⟩, X⟩ (λs σ' H' _ ⟨_, e⟩ => bS.of e.gp) ?_ ?_
      · rintro s x σ' Hk hx ⟨⟨y2, rfl⟩, X⟩;have mx := aw hx;obtain ⟨q, _, rfl, _⟩ := X.row (.inl mx)
        repeat' (first | walk_at "rd" | refine iB (λ_ => ?_) (λ_ => ?_))
        all_goals first
          | exact ⟨⟨_, rfl⟩, X⟩
          | (refine bZ λt Hb sb gb => ?_
             walk_at "w";obtain ⟨zs, gz, lz, Xz⟩ := (X.same sb).put MA (.inl mx) (cx.mk (q := 0) gb rfl) (vE (i := 0) (bx _) W1) kk;refine fu gz (fE (by lia)) rfl ?_;exact ⟨⟨_, rfl⟩, Xz⟩)
          | (refine ⟨b, 2, rfl, X.mix.bag, by decide, by decide, λd Hd d0 d1 Bd ud => ?_⟩
             replace X := X.upto MA ud Bd
             repeat' (first | walk_at "rd" | refine iB (λ_ => ?_) (λ_ => ?_))
             all_goals first
               | exact ⟨⟨_, rfl⟩, X⟩
               | (refine bZ λt Hb sb gb => ?_
                  walk_at "w";obtain ⟨zs, gz, lz, Xz⟩ := (X.same sb).put MA (.inl mx) (cx.mk (q := 0) gb rfl) (vE (i := 0) (bx _) W1) kk;refine fu gz (fE (by lia)) rfl ?_;exact ⟨⟨_, rfl⟩, Xz⟩))
      · rintro σ' Hk ⟨⟨y2, rfl⟩, X⟩;walk_at "w";refine ⟨⟨_, bS.of X.gl⟩, ?_⟩;refine fW (K := K) (a := l) (xs := vs) (λs σ' H' => (∃ x2, σ' = [some (.ref b), some (.int n), some (.int i), some (.int o), some (.int w), some (.int way), some (.int first), some (.ref m), some (.ref p), some (.ref l), some (.int kk), x2]) /\ IE K A n (Dr (max w 6)) m p l b q0 us ws vs H H') ⟨⟨_, rfl⟩, X⟩ (λs σ' H' _ ⟨_, e⟩ => bS.of e.gl) ?_ ?_
        · rintro s x σ' Hk hx ⟨⟨y2, rfl⟩, X⟩;have mx := aw hx;obtain ⟨q, _, rfl, _⟩ := X.row (.inr mx)
          repeat' (first | walk_at "rd" | refine iB (λ_ => ?_) (λ_ => ?_))
          all_goals first
            | exact ⟨⟨_, rfl⟩, X⟩
            | (refine bZ λt Hb sb gb => ?_
               walk_at "w";obtain ⟨zs, gz, lz, Xz⟩ := (X.same sb).put MA (.inr mx) (cx.mk (q := 0) gb rfl) (vE (i := 0) (bx _) W1) kk;refine fu gz (fE (by lia)) rfl ?_;exact ⟨⟨_, rfl⟩, Xz⟩)
            | (refine ⟨b, 2, rfl, X.mix.bag, by decide, by decide, λd Hd d0 d1 Bd ud => ?_⟩
               replace X := X.upto MA ud Bd
               repeat' (first | walk_at "rd" | refine iB (λ_ => ?_) (λ_ => ?_))
               all_goals first
                 | exact ⟨⟨_, rfl⟩, X⟩
                 | (refine bZ λt Hb sb gb => ?_
                    walk_at "w";obtain ⟨zs, gz, lz, Xz⟩ := (X.same sb).put MA (.inr mx) (cx.mk (q := 0) gb rfl) (vE (i := 0) (bx _) W1) kk;refine fu gz (fE (by lia)) rfl ?_;exact ⟨⟨_, rfl⟩, Xz⟩))
        · rintro σ' Hk ⟨⟨y2, rfl⟩, X⟩;exact ⟨⟨_, _, rfl⟩, X⟩
    · rintro σ' Hj ⟨⟨x1, x2, rfl⟩, X⟩
      obtain ⟨M1, M2, M3, V0, a1, a2, a3, V2, hcs, R1, R2, R3⟩ : ∃ M1 M2 M3 V0 : Nat, (0 < M1 /\ M1 ≤ 2 ^ 800) /\ (0 < M2 /\ M2 ≤ 2 ^ 800) /\ (0 < M3 /\ M3 ≤ 2 ^ 800) /\ V0 ≤ 2 ^ 20 /\ ((w ≤ 9 /\ M1 = 2520 /\ M2 = 2520 /\ M3 = 2520 /\ V0 = 9) \/ (9 < w /\ M1 ≤ 2 ^ (c * (n * n)) /\ M2 ≤ 2 ^ (c * (i * n)) /\ M3 ≤ 2 ^ (c * (o * n)) /\ V0 = 2 ^ c)) /\ (∀ x ∈ us, fO K A Hj n (Fr M1 V0) x) /\ (∀ x ∈ ws, fO K A Hj n (Fr M2 V0) x) /\ ∀ x ∈ vs, fO K A Hj n (Fr M3 V0) x := by
        by_cases w9 : w ≤ 9
        · have XM := X.mix.weak (C' := λ_ => Fr 2520 9) λ_ _ y h => Mw ⟨ai h.1 (by lia), ai h.2 (by lia)⟩ (Bh _)
          have z : 0 < 2520 /\ 2520 ≤ 2 ^ 800 := ⟨by decide, ai (show 2520 ≤ 2 ^ 12 by decide) (au (by decide) (by decide))⟩;exact ⟨2520, 2520, 2520, 9, z, z, z, by decide, .inl ⟨w9, rfl, rfl, rfl, rfl⟩, λx hx => XM.row x (by simp [hx]), λx hx => XM.row x (by simp [hx]), λx hx => XM.row x (by simp [hx])⟩
        · obtain ⟨M1, M2, M3, a1, a2, a3, b1, b2, b3, R1, R2, R3⟩ := (X.mix.weak (C' := λ_ => Dr (2 ^ c)) λ_ _ y h => ⟨ai h.1 hc, ai h.2 hc⟩).fr3;rw [lws] at b2;rw [lvs] at b3;have up : ∀ {M k : Nat}, M ≤ 2 ^ (c * k) → k ≤ (n + i + o) * n → M ≤ 2 ^ 800 := λh hk => ai h (au (by decide) (ai (aF _ hk) hcM))
          exact ⟨M1, M2, M3, 2 ^ c, ⟨a1, up b1 (aA _ (by lia))⟩, ⟨a2, up b2 (aA _ (by lia))⟩, ⟨a3, up b3 (aA _ (by lia))⟩, au (by decide) hc20, .inr ⟨by lia, b1, b2, b3, rfl⟩, R1, R2, R3⟩
      obtain ⟨μ, e2, e3, e1, e4⟩ := LR ws vs M1 M2 M3;obtain ⟨ap1, ap2⟩ := X.mix.apart
      have XM : kW K A Hj n (λx => Fr (μ x) V0) m p l b q0 us ws vs := by
        refine ⟨X.mix.bag, X.mix.inn, X.mix.gm, X.mix.gp, X.mix.gl, X.mix.lm, λx hx => ?_, X.mix.nd⟩;rcases ay.mp hx with hx | hx
        · rcases ay.mp hx with hx | hx
          · rw [e1 x (ap1 x hx).1 (ap1 x hx).2]; exact R1 x hx
          · rw [e3 x hx (ap2 x hx)]; exact R3 x hx
        · rw [e2 x hx]; exact R2 x hx
      have p1 : ∀ x, 0 < μ x := λx => by
        rcases e4 x with e | e | e
        · rw [e]; exact a1.1
        · rw [e]; exact a2.1
        · rw [e]; exact a3.1
      have p2 : ∀ x, μ x ≤ 2 ^ 800 := λx => by
        rcases e4 x with e | e | e
        · rw [e]; exact a1.2
        · rw [e]; exact a2.2
        · rw [e]; exact a3.2
      have gmj := X.mix.gm;walk_at "w";refine ⟨b, m, p, l, q0, n, V0, μ, A, us, ws, vs, rfl, MA, XM, n8, by lia, by lia, p1, p2, ⟨M1, e1⟩, V2, λq hq => ?_, λr us' H' g Y kp => ?_⟩
      · refine mkA ?_ (λz => by rw [z, gmj] at hq; cases hq) (λz => by rw [z, X.gp] at hq; cases hq) (λz => by rw [z, X.gl] at hq; cases hq);cases e : H q with
        | none => rfl
        | some u =>
          have := X.kp q u e (λz => X.mix.bag.at (by rw [<- z]; exact hq)) (λz => by have := (unA z).1; rw [e] at this; cases this) (λz => by rw [z, hm0] at e; cases e);rw [hq] at this; cases this
      · obtain ⟨yp1, yp2⟩ := Y.apart;obtain ⟨mv, Gm, lmv, hmv⟩ := lW (H0 := H) (n := n) (C := Fr M1 (9 ^ 3 * V0)) (m := n) ⟨us', Y.gm, Y.lm, MA.am, λx hx => by have := Y.row x (by simp [hx]); rwa [e1 x (yp1 x hx).1 (yp1 x hx).2] at this⟩ λq h => (unA h).1
        obtain ⟨pt, Gp, lpt, hpt⟩ := lW (H0 := H) (n := n) (C := Fr M2 (9 ^ 3 * V0)) (m := i) ⟨ws, Y.gp, lws, MA.ap, λx hx => by have := Y.row x (by simp [hx]); rwa [e2 x hx] at this⟩ λq h => (unA h).1
        obtain ⟨lk, Gl, llk, hlk⟩ := lW (H0 := H) (n := n) (C := Fr M3 (9 ^ 3 * V0)) (m := o) ⟨vs, Y.gl, lvs, MA.al, λx hx => by have := Y.row x (by simp [hx]); rwa [e3 x hx (yp2 x hx)] at this⟩ λq h => (unA h).1
        refine k r mv pt lk H' ⟨m, p, l, g, hm0, hp0, hl0, Gm, Gp, Gl⟩ lmv lpt llk ⟨by lia, by lia, by lia, λxs hx => by rw [(hmv xs hx).1, lmv], λxs hx => by rw [(hpt xs hx).1, lmv], λxs hx => by rw [(hlk xs hx).1, lmv]⟩ ⟨M1, M2, M3, 9 ^ 3 * V0, a1.1, a2.1, a3.1, λxs hx => (hmv xs hx).2, λxs hx => (hpt xs hx).2, λxs hx => (hlk xs hx).2, ?_⟩ Y.bag ⟨λc' u e n1 => (X.kp.trans kp) c' u e n1 (λz => by have := (unA z).1; rw [e] at this; cases this) (λz => by rw [z, hm0] at e; cases e), λq h => by rw [<- Inner.inj I0 h]; exact Y.inn⟩;rcases hcs with ⟨b1, b2, b3, b4, b5⟩ | ⟨b1, b2, b3, b4, b5⟩
        · exact .inl ⟨b1, b2, b3, b4, by rw [b5]⟩
        · exact .inr ⟨b1, b2, b3, b4, by rw [b5]⟩
theorem iF:bu ["_law_bag_here","_law_n","_law_ins","_law_outs","_law_wide"] ["_law_bag_here"] (ax hJ):=by walk_at "d"
theorem BU (T:Txt K mg Z):cK P w K mg base gi 6 Z.mW Z.mI ["_law_bag_here"] (Nk K):=by
 refine T.rR.ok iF (λvs H Q E h=>?_) (λcdv A outer s H vs Q E hr h=>?_)
 ·obtain ⟨b,rfl,_⟩:=h;rfl
 ·obtain ⟨b,rfl,hB,k⟩:=h
  refine ⟨_,(ar (fz (cP (C0 T) hr T.xx T.ur.kp T.yX (aa (pv 0) ag)) (va rfl (cH (aN (i:=1) iF.nd) (cH (aN (i:=2) iF.nd) (cH (aN (i:=3) iF.nd) (cH (aN (i:=4) iF.nd) jc))))))
   (ar (cO (bC fq (cP (aY T) hr T.aQ T.aX.kp T.be (aa (pv 0) (aa aj ag))) aj (bK _)) (ar (cO (bC fq (cP (aY T) hr T.aQ T.aX.kp T.be (aa (pv 0) (aa aj ag))) aj (bK _)) (az (aV (cL (aa (cP (yv T) hr T.pZ T.ma.kp T.sC (aa (pv 0) ag)) (aa aj ag))))) bT)
   (az (aV (cL (aa (cP (sY T) hr T.oi T.nP.kp T.qM (aa (pv 0) (aa (bL eF aj (cP (aY T) hr T.aQ T.aX.kp T.be (aa (pv 0) (aa aj ag)))) ag))) (aa aj ag)))))) bT)
   (az (aV (cL (aa (cP (C2 T) hr T.xA T.uv.kp T.yZ (aa (pv 0) (aa (pv 1) (aa (pv 2) (aa (pv 3) (aa (pv 4) ag)))))) (aa (bD (wL rfl) (by rfl) T.min PyProof.Rows.boot_min (aa (pv 4) (aa aj ag))) ag))))))),?_⟩
  refine aS (σ:=[some (.ref b),none,none,none,none]) rfl ?_;have sf:∀{mv pt lk:LR9} {M V1:Nat},0 < M->M<=2^400->V1<=2^30->GF M V1 mv->GF M V1 pt->GF M V1 lk->KI mv pt lk:=λh0 h1 h2 a b c=>⟨_,_,h0,h1,ai h2 (au (by decide) (by decide)),a,b,c⟩
  walk_at "w";refine ⟨b,rfl,hB,λr n i o w H1 g1 n5 i4 o4 hw h5 B1 u1=>?_⟩;walk_at "w";refine ⟨b,16,rfl,B1,by decide,by decide,λv H2 v0 v1 B2 u2=>?_⟩;have u02:=u1.trans u2;walk_at "w";refine iB (λh0=>?_) (λh0=>?_)
  ·walk_at "w";refine ⟨b,2,rfl,B2,by decide,by decide,λv2 H3 _ _ B3 u3=>?_⟩;have u03:=u02.trans u3;walk_at "w";refine iB (λh1=>?_) (λh1=>?_)
   ·walk_at "w";refine ⟨b,rfl,B3,λr4 mv pt lk H4 P4 l6 D fm fp fl B4 u4=>?_⟩;walk_at "w";refine bZ λt H5 s5 g5=>?_
    exact k t r4 4 0 13 mv pt lk H5 g5 ((P4.weak λq h=>u03.none B3 h).same s5) D (sf (by decide) jG (by decide) fm fp fl) (A2 (n0:=8) (by decide) (by decide) D.n8 (by decide) fm fp (by decide)) (.inl ⟨by decide,by decide,by decide,by decide,by decide,fm,fp,ai (aA _ (show mv.length+4<=12 by have:=D.n8;lia)) (by decide)⟩) (by decide) (by decide) (B4.same s5) ((u03.trans u4).same s5)
   ·walk_at "w";refine ⟨b,3,rfl,B3,by decide,by decide,λv3 H4 v30 v31 B4 u4=>?_⟩;obtain ⟨v3,rfl⟩:=bQ v30;have u04:=u03.trans u4;walk_at "w";rw[show ((6:Int)+(v3:Int))=((6+v3:Nat):Int) by lia];refine ⟨b,6+v3,rfl,B4,by lia,by lia,λr4 mv pt lk H5 P5 lm _ _ D fm fp fl B5 u5=>?_⟩;walk_at "w";refine bZ λt H6 s6 g6=>?_
    exact k t r4 4 0 4 mv pt lk H6 g6 ((P5.weak λq h=>u04.none B4 h).same s6) D (sf (by decide) jG (by decide) fm fp fl) (A2 (n0:=8) (by decide) (by decide) D.n8 (by decide) fm fp (by decide)) (.inl ⟨by decide,by decide,by decide,by decide,by decide,(λxs hx x hx'=>(fm xs hx x hx').mono (by decide)),(λxs hx x hx'=>(fp xs hx x hx').mono (by decide)),ai (aA _ (show mv.length+4<=12 by have:=D.n8;lia)) (by decide)⟩) (by decide) (by decide) (B5.same s6) ((u04.trans u5).same s6)
  ·obtain ⟨c,hc,hc20,hcM⟩:∃c:Nat,max w 6<=2^c/\c<=20/\c*((n+i+o)*n)<=800/\(9 < w->c=20/\(n+i+o)*n<=20/\n<=2):=by
    have m1:(n+i+o)*n<=13*5:=aJ (by lia) n5;rcases hw with rfl | rfl | ⟨rfl,n2⟩
    ·exact ⟨4,by decide,by decide,by lia,λz=>by lia⟩
    ·exact ⟨4,by decide,by decide,by lia,λz=>by lia⟩
    ·have m2:(n+i+o)*n<=10*2:=aJ (by lia) n2;exact ⟨20,by decide,by decide,by lia,λ_=>⟨rfl,by lia,n2⟩⟩
   obtain ⟨hcM,hbig⟩:=hcM;walk_at "w";refine ⟨b,n,i,o,w,c,rfl,B2,by lia,i4,o4,by lia,by lia,hc,hc20,hcM,λr4 mv pt lk H4 P4 lm lp ll D PF B4 u4=>?_⟩;have hmin:(if (1000:Int) < (w:Int) then (1000:Int) else (w:Int))=((min w 1000:Nat):Int):=by split <;> lia
   have PG:=PF;obtain ⟨M,V1,M0,fm,fp,fl,hcs⟩:=PF.n
   obtain ⟨a',c',KF,SF⟩:∃a' c',uN mv pt a' c'/\KI mv pt lk:=by
    rcases hcs with ⟨w9,rfl,rfl⟩ | ⟨w9,M1,rfl⟩
    ·exact ⟨12,16,A2 (n0:=5) (by decide) (by decide) (by lia) (by decide) fm fp (by decide),sf (by decide) (ai (show 2520<=2^12 by decide) (au (by decide) (by decide))) (by decide) fm fp fl⟩
    ·obtain ⟨rfl,e1,e2⟩:=hbig w9;have M4:M<=2^400:=ai M1 (au (by decide) (by lia));exact ⟨400,32,A2 (n0:=2) M0 M4 (by lia) (by decide) fm fp (by decide),sf M0 M4 (by decide) fm fp fl⟩
   have RG:Rg mv pt (min w 1000):=by
    obtain ⟨M1,M2,M3,V1,a1,a2,a3,f1,f2,f3,hc'⟩:=PG;rcases hc' with ⟨w9,rfl,rfl,_,rfl⟩ | ⟨w9,b1,b2,_,rfl⟩
    ·exact .inr (.inl ⟨by lia,by lia,by decide,by decide,by decide,by decide,f1,f2,ai (aA _ (show mv.length+4<=9 by lia)) (by decide)⟩)
    ·obtain ⟨rfl,e1,e2⟩:=hbig w9;have q1:n*n<=2*2:=aJ e2 e2;have q2:i*n<=4*2:=aJ i4 e2;have w6:w=1000000:=by lia
     exact .inr (.inr ⟨by lia,by lia,M1,M2,a1,a2,ai b1 (au (by decide) (by lia)),ai b2 (au (by decide) (by lia)),f1,f2,ai (aA _ (show mv.length+4<=6 by lia)) (by decide)⟩)
   walk_at "w";refine bZ λt H5 s5 g5=>?_
   rw[hmin] at g5;exact k t r4 (min w 1000) a' c' mv pt lk H5 g5 ((P4.weak λq h=>u02.none B2 h).same s5) D SF KF RG (by lia) (by lia) (B4.same s5) ((u02.trans u4).same s5)
theorem Em:bu ["thing","at","most"] ["thing","at","most"] (ax jP):=by walk_at "d"
theorem sX (T:Txt K mg Z):cK P w K mg base gi 1 Z.qP Z.p9 ["thing","at","most"] IV:=by
 refine T.nN.ok Em (λvs H Q E h=>?_) (λcdv A outer s H vs Q E hr h=>?_)
 ·obtain ⟨p,xs,a,m,rfl,_⟩:=h;rfl
 ·obtain ⟨p,xs,a,m,rfl,gx,hm,k⟩:=h
  refine ⟨_,(ar (cO (ib (fo (rD rfl T.isinstance PyProof.Rows.boot_list T.list (pv 0)))) (az LC) bT)
   (az (cO (bC xn (bD aZ (by rfl) T.len aP (aa (pv 0) ag)) (pv 2) (bK _)) (az LC) bT))),?_⟩
  refine aS (σ:=[some (.ref p),some (.int a),some (.int m)]) rfl ?_;walk_at "w";refine ⟨_,_,.lst gx,rfl,?_⟩;walk_at "w";refine ⟨_,_,rfl,.inl (bS.of gx),?_⟩;walk_at "w";rw[decide_eq_false (show ¬m < (xs.length:Int) by lia)];walk_at "w";exact k
theorem FW:bu ["thing"] ["thing"] (ax lG):=by walk_at "d"
theorem Ak (T:Txt K mg Z):cK P w K mg base gi 1 Z.tW Z.tF ["thing"] JU:=by
 refine T.ui.ok FW (λvs H Q E h=>?_) (λcdv A outer s H vs Q E hr h=>?_)
 ·obtain ⟨i,rfl,_⟩:=h;rfl
 ·obtain ⟨i,rfl,k⟩:=h;refine ⟨_,(az (aV (HX (rD rfl T.isinstance PyProof.Rows.boot_int T.int (pv 0)) (HU (Qc (rD rfl T.isinstance PyProof.Rows.boot_bool T.bool (pv 0))))))),?_⟩;refine aS (σ:=[some (.int i)]) rfl ?_;walk_at "w";refine ⟨_,_,.int i,rfl,?_⟩;walk_at "w";refine ⟨_,_,.int i,rfl,?_⟩;walk_at "w";exact k
theorem ig:bu ["one","other","rest"] ["one","other"] (ax eY):=by walk_at "d"
theorem kH (T:Txt K mg Z):cK P w K mg base gi 1 Z.jk Z.je ["one","other"] Rm:=by
 refine T.gh.ok ig (λvs H Q E h=>?_) (λcdv A outer s H vs Q E hr h=>?_)
 ·obtain ⟨a,b,rfl,_⟩:=h;rfl
 ·obtain ⟨a,b,rfl,k⟩:=h
  refine ⟨_,(ar (BK PassesOwn.never (bC vf (pv 1) aj (bK _))
    (ar (bp (i:=2) ig.nd rfl (Or.inl rfl) (bL Ob (pv 0) (pv 1)))
   (ar (bp (i:=0) ig.nd rfl (Or.inl rfl) (pv 1))
   (az (bp (i:=1) ig.nd rfl (Or.inl rfl) (pv 2))))))
   (az (aV (bD yT (by rfl) T.abs PyProof.Rows.boot_abs (aa (pv 0) ag))))),?_⟩
  refine aS (σ:=[some (.int a),some (.int b),none]) rfl ?_;walk_at "w";refine Eb (λσ' H'=>∃(u v:Int) (r:Option V),σ'=[some (.int u),some (.int v),r]/\H'=H/\Int.gcd u v=Int.gcd a b) (λσ' _=>match σ' with | [_,some (.int v),_]=>v.natAbs | _=>0) ⟨a,b,none,rfl,rfl,rfl⟩ ?_;rintro σ' H' ⟨u,v,r,rfl,rfl,hg⟩;walk_at "w";refine iB (λh=>?_) (λh=>?_)
  ·have hv:v≠0:=λz=>by subst z;simp at h
   walk_at "w";refine gL (show v≠0 from hv) ?_;walk_at "w";exact ⟨⟨v,u.fmod v,_,rfl,rfl,(Mj u v).trans hg⟩,Ol u v hv⟩
  ·have hv:v=0:=by
    by_cases z:v=0
    ·exact z
    ·exfalso;apply h;simp [z]
   subst hv;walk_at "w"
   have e:(if u < 0 then -u else u)=g a b:=by
    unfold g;rw[<- hg,Int.gcd_zero_right]
    split <;> lia
   rw[e];exact k
theorem Ep:bu ["thing"] ["thing"] (ax jS):=by walk_at "d"
theorem ED (T:Txt K mg Z):cK P w K mg base gi 2 Z.qS Z.qh ["thing"] (JX K):=by
 refine T.vQ.ok Ep (λvs H Q E h=>?_) (λcdv A outer s H vs Q E hr h=>?_)
 ·obtain ⟨x,n,rfl,_⟩:=h;rfl
 ·obtain ⟨x,n,rfl,⟨p,rfl,hp⟩,hn,k⟩:=h
  refine ⟨_,(ar (cO (PW.pt (lB (ib (fo (sW rfl T.isinstance PyProof.Rows.boot_tuple T.tuple (pv 0)))) (kC (bC vf (bD aZ (by rfl) T.len aP (aa (pv 0) ag)) aj (bK _))))) (az (aV pH)) bT)
   (ar (cO (PW.pt (lB (ib (fo (cP (Ak T) hr T.vv T.ui.kp T.yd (aa (bw bY (pv 0) aj) ag)))) (kC (ib (fo (cP (Ak T) hr T.vv T.ui.kp T.yd (aa (bw bY (pv 0) aj) ag))))))) (az (aV pH)) bT)
   (az (aV (HX (jC DF (bw bY (pv 0) aj) aj (bK _)) (HU (jC fq (cP (kH T) hr T.ik T.gh.kp T.ji (aa (bw bY (pv 0) aj) (aa (bw bY (pv 0) aj) ag))) aj (bK _)))))))),?_⟩
  refine aS (σ:=[some (.ref p)]) rfl ?_;obtain ⟨hb,hg,s1,s2⟩:=hn;walk_at "w";refine .inr ⟨p,_,_,rfl,hp,rfl,?_⟩;walk_at "w";refine ⟨_,_,rfl,.inr hp,?_⟩;walk_at "w"
  try refine Ku ?_
  walk_at "w";refine ⟨n.1,rfl,?_⟩;walk_at "w";refine ⟨n.2,rfl,?_⟩;walk_at "w";rw[decide_eq_true (show (1:Int)<=n.2 by lia)];walk_at "w";refine ⟨n.1,n.2,rfl,?_⟩;walk_at "w";have e:g n.1 n.2=1:=by unfold g;rw[hg];rfl
  rw[e,decide_eq_true rfl];exact k _ (aE.refl _)
theorem J0:bu ["thing","many"] ["thing","many"] (ax rZ):=by walk_at "d"
theorem Kg (T:Txt K mg Z):cK P w K mg base gi 3 Z.zh Z.yQ ["thing","many"] (zH K):=by
 refine T.Cz.ok J0 (λvs H Q E h=>?_) (λcdv A outer s H vs Q E hr h=>?_)
 ·obtain ⟨p,ns,rfl,_⟩:=h;rfl
 ·obtain ⟨p,ns,rfl,hp,hl,hn,k⟩:=h
  refine ⟨_,(ar (cO (PW.pt (lB (ib (fo (rD rfl T.isinstance PyProof.Rows.boot_list T.list (pv 0)))) (kC (bC vf (bD aZ (by rfl) T.len aP (aa (pv 0) ag)) (pv 1) (bK _))))) (az (aV pH)) bT)
   (az (aV (bD (yS rfl) (by rfl) T.all PyProof.Rows.boot_all (aa (cC ["value"] [] [] (cR (pv 0)) (λ_=>(aN (i:=0) (show List.Nodup (α:=PySem.Str) ["value"] by decide +kernel))) (λ_=>cG) (λ_=>(cP (ED T) hr T.yz T.vQ.kp T.Ar (aa (pv 0) ag)))) ag))))),?_⟩
  refine aS (σ:=[some (.ref p),some (.int ns.length)]) rfl ?_;obtain ⟨xs,gx,qx⟩:=id hp;have lx:=qx.length;walk_at "w";refine ⟨_,_,.lst gx,rfl,?_⟩;walk_at "w";refine ⟨_,_,rfl,.inl (bS.of gx),?_⟩;walk_at "w";rw[show ((xs.length:Nat):Int)=(ns.length:Nat) by rw[lx],decide_eq_true rfl];walk_at "w";refine ⟨⟨_,bS.of gx⟩,?_⟩;refine fY (K:=K) (xs:=xs) (λi ys H'=>aE H H'/\ys=List.replicate i (.bl true)) (bc (bF (by lia))) ⟨aE.refl _,rfl⟩ (λi ys H' _ ⟨s,_⟩=>bS.of (s _ _ gx)) ?_ ?_
  ·rintro i x ys H' hx hlen ⟨s,rfl⟩;obtain ⟨n,en,z⟩:=cv qx hx;walk_at "w";exact ⟨x,n,rfl,s.num z,hn n (aw en),λH2 s2=>⟨s.trans s2,by rw[uM]⟩⟩
  ·rintro ys H' hy ⟨s,rfl⟩ l hl';walk_at "w";refine ⟨l,List.replicate xs.length true,rfl,bS.of (by rw[aK];simp),?_⟩;have e4:(List.replicate xs.length true).all id=true:=by simp
   rw[e4];exact k _ (s.trans (aE.new hl'))
theorem pF:bu ["things","wide","place","thing"] ["things","wide"] (ax gZ):=by walk_at "d"
theorem pL (T:Txt K mg Z):cK P w K mg base gi 4 Z.mV Z.mH ["things","wide"] (Ja K):=by
 refine T.jz.ok pF (λvs H Q E h=>?_) (λcdv A outer s H vs Q E hr h=>?_)
 ·obtain ⟨p,H0,rows,w,rfl,_⟩:=h;rfl
 ·obtain ⟨p,H0,rows,w,rfl,hp,hl,hw,hn,k⟩:=h
  refine ⟨_,(ar (dR PassesOwn.never rfl (N7 rfl T.enumerate (aa (pv 0) ag)) (va rfl (cH (aN (i:=2) pF.nd) (cH (aN (i:=3) pF.nd) jc)))
    (az (cO (ib (fo (cP (Kg T) hr T.DI T.Cz.kp T.GY (aa (pv 3) (aa (pv 1) ag))))) (az LC) bT)))
   (az (aV (cC ["row"] [] [] (cR (pv 0)) (λ_=>(aN (i:=0) (show List.Nodup (α:=PySem.Str) ["row"] by decide +kernel))) (λ_=>cG) (λ_=>(d5 (fL K (by rfl)) (by rfl) T.list PyProof.Rows.boot_list (aa (pv 0) ag))))))),?_⟩
  refine aS (σ:=[some (.ref p),some (.int w),none,none]) rfl ?_;obtain ⟨xs,gx,qx,_⟩:=id hp;walk_at "w";refine ⟨⟨_,bS.of gx⟩,?_⟩;refine Mp (K:=K) (l:=p) (xs:=xs) (λi σ' H'=>aE H H'/\∃x y,σ'=[some (.ref p),some (.int w),x,y]) ⟨aE.refl _,none,none,rfl⟩ (λi σ' H' _ ⟨s,_⟩=>bS.of (s _ _ gx)) ?_ ?_
  ·rintro i x σ' H' t hx ⟨s,x1,y1,rfl⟩ ht;obtain ⟨qs,eq,q,rfl,_,Rq⟩:=cv qx hx;have hm:=aw eq;have st:aE H' (upd H' t (.tup [.int i,.ref q])):=aE.new ht;have gt:(upd H' t (.tup [.int i,.ref q])) t=some (.tup [.int i,.ref q]):=aK;have s2:=s.trans st;generalize upd H' t (.tup [.int i,.ref q])=H2 at st gt s2 ⊢;have lq:(qs.map nm).length=w:=by rw[ao];exact (hn qs hm).1
   walk_at "w";refine ⟨q,_,by rw[lq],(Rq.same s2).rowK,by rw[lq];exact hw,λn hn'=>?_,λH3 s3=>?_⟩
   ·obtain ⟨y,hy,rfl⟩:=aH.mp hn';exact (hn qs hm).2 y hy
   walk_at "w";exact ⟨s2.trans s3,_,_,rfl⟩
  ·rintro σ' H' ⟨s,x1,y1,rfl⟩;walk_at "w";refine ⟨⟨_,bS.of (s _ _ gx)⟩,?_⟩;refine ff (K:=K) (F:=dF K H0) (dF K H) id (s _ _ gx) (Paired.imp' (λ_ _ z=>z.same s) qx) hl (λa b=>a.same b) (λa b=>a.same b) ?_ ?_
   ·rintro i ns x H2 NY NN en s2 ⟨u,rfl,_,zs,gz,qz⟩ k1;walk_at "w";refine ⟨u,zs,rfl,.inl (bS.of gz),λl1 hl1=>?_⟩;exact k1 _ _ (aE.new hl1) ⟨l1,rfl,s.none (s2.none hl1),zs,aK,Paired.imp' (λ_ _ z=>z.same (aE.new hl1)) qz⟩
   ·rintro ys' H2 r hr s2 g pr nx;rw[jB] at pr nx;exact k r H2 (s.none hr) (s.trans s2) ⟨ys',g,pr,nZ nx⟩
theorem xQ:bu ["self","move","put","look"] ["self","move","put","look"] (ax eJ):=by walk_at "d"
theorem xX (T:Txt K mg Z):cK P w K mg base gi 5 Z.ir Z.ip ["self","move","put","look"] (IX K Z.a_System):=by
 refine T.rn.ok xQ (λvs H Q E h=>?_) (λcdv A outer s H vs Q E hr h=>?_)
 ·obtain ⟨x,dx,p,q,r,Hb,H0,H1,H2,mv,pt,lk,rfl,_⟩:=h;rfl
 ·obtain ⟨x,dx,p,q,r,Hb,H0,H1,H2,mv,pt,lk,rfl,nx,ndx,nex,rfl,gp,gq,gr,D,om,op,ol,k⟩:=h
  refine ⟨_,(ar (ij (cP (sX T) hr T.og T.nN.kp T.qJ (aa (pv 1) (aa aj (aa (yr (v:=.int 8) rfl T.mg_MOST_STATES ⟨_,rfl⟩) ag)))))
   (ar (zN (pv 0) (cP (pL T) hr T.kK T.jz.kp T.mP (aa (pv 1) (aa (bD aZ (by rfl) T.len aP (aa (pv 1) ag)) ag))) rfl)
   (ar (zN (pv 0) (bD aZ (by rfl) T.len aP (aa (kF (pv 0) rfl) ag)) rfl)
   (ar (ij (cP (sX T) hr T.og T.nN.kp T.qJ (aa (pv 2) (aa aj (aa (yr (v:=.int 4) rfl T.mg_MOST_PUTS ⟨_,rfl⟩) ag)))))
   (ar (zN (pv 0) (cP (pL T) hr T.kK T.jz.kp T.mP (aa (pv 2) (aa (kF (pv 0) rfl) ag))) rfl)
   (ar (zN (pv 0) (bD aZ (by rfl) T.len aP (aa (kF (pv 0) rfl) ag)) rfl)
   (ar (ij (cP (sX T) hr T.og T.nN.kp T.qJ (aa (pv 3) (aa aj (aa (yr (v:=.int 4) rfl T.mg_MOST_LOOKS ⟨_,rfl⟩) ag)))))
   (ar (zN (pv 0) (cP (pL T) hr T.kK T.jz.kp T.mP (aa (pv 3) (aa (kF (pv 0) rfl) ag))) rfl)
   (az (zN (pv 0) (bD aZ (by rfl) T.len aP (aa (kF (pv 0) rfl) ag)) rfl)))))))))),?_⟩
  refine aS (σ:=[some (.ref x),some (.ref p),some (.ref q),some (.ref r)]) rfl ?_
  have s0:aE Hb (upd (upd Hb dx (.own x)) x (.ins Z.a_System dx [])):=λb o e=>by
   rw[bH (fJ e nx),bH (fJ e ndx)];exact e
  have hx:(upd (upd Hb dx (.own x)) x (.ins Z.a_System dx [])) x=some (.ins Z.a_System dx []):=aK;have back:∀{b},(upd (upd Hb dx (.own x)) x (.ins Z.a_System dx [])) b=none->Hb b=none:=λh=>s0.none h
  generalize upd (upd Hb dx (.own x)) x (.ins Z.a_System dx [])=Ha at s0 hx back ⊢;obtain ⟨xs,gx,qx,_⟩:=id gp;obtain ⟨ys,gy,qy,_⟩:=id gq;obtain ⟨zs,gz,qz,_⟩:=id gr;have lx:=qx.length;have ly:=qy.length;have lz:=qz.length;have d1:=D.n8;have d2:=D.i4;have d3:=D.o4;walk_at "w";refine ⟨p,xs,0,8,rfl,s0 _ _ gx,by lia,?_⟩;walk_at "w";refine ⟨_,_,rfl,.inl (bS.of (s0 _ _ gx)),?_⟩;walk_at "w";refine ⟨p,H0,mv,mv.length,by rw[lx],gp.same s0,by lia,by lia,λws hw=>⟨D.mw ws hw,om ws hw⟩,λa H3 na s3 Ga=>?_⟩;have hx3:=s3 _ _ hx;walk_at "w";refine ⟨x,Z.a_System,dx,_,rfl,hx3,T.cl_System,T.na_move,(by show 0 < 1000;decide),?_⟩;have e3:Fq x H3 (upd H3 x (.ins Z.a_System dx (cz "move" (.ref a) []))):=Fq.upd;have i3:xK H3 x:=⟨_,_,_,hx3⟩;have hx4:(upd H3 x (.ins Z.a_System dx (cz "move" (.ref a) []))) x=some (.ins Z.a_System dx (cz "move" (.ref a) [])):=aK;have Ga4:=Ga.exc e3 i3;have k4:aE Hb (upd H3 x (.ins Z.a_System dx (cz "move" (.ref a) []))):=(s0.trans s3).after nx;generalize upd H3 x (.ins Z.a_System dx (cz "move" (.ref a) []))=H4 at e3 hx4 Ga4 k4 ⊢;walk_at "w";refine ⟨x,Z.a_System,dx,_,_,rfl,hx4,T.cl_System,T.na_move,(by rw[bM,if_pos rfl]),?_⟩;obtain ⟨as,ga,qa,_⟩:=id Ga4;have la:=qa.length;walk_at "w";refine ⟨_,_,rfl,.inl (bS.of ga),?_⟩;walk_at "w";refine ⟨x,Z.a_System,dx,_,rfl,hx4,T.cl_System,T.na_states,bJ eP (by show 1 < 1000;decide),?_⟩;rw[show ((as.length:Nat):Int)=((mv.length:Nat):Int) by rw[la]];have e4:Fq x H4 (upd H4 x (.ins Z.a_System dx (cz "states" (.int mv.length) (cz "move" (.ref a) [])))):=Fq.upd;have i4:xK H4 x:=⟨_,_,_,hx4⟩;have hx5:(upd H4 x (.ins Z.a_System dx (cz "states" (.int mv.length) (cz "move" (.ref a) [])))) x=some (.ins Z.a_System dx (cz "states" (.int mv.length) (cz "move" (.ref a) []))):=aK;have Ga5:=Ga4.exc e4 i4;have k5:aE Hb (upd H4 x (.ins Z.a_System dx (cz "states" (.int mv.length) (cz "move" (.ref a) [])))):=k4.after nx;generalize upd H4 x (.ins Z.a_System dx (cz "states" (.int mv.length) (cz "move" (.ref a) [])))=H5 at e4 hx5 Ga5 k5 ⊢;clear e3 e4 i3 i4 hx4 Ga4 ga qa;walk_at "w";refine ⟨q,ys,1,4,rfl,k5 _ _ gy,by lia,?_⟩;walk_at "w";refine ⟨x,Z.a_System,dx,_,_,rfl,hx5,T.cl_System,T.na_states,(by rw[bM,if_pos rfl]),?_⟩;walk_at "w";refine ⟨q,H1,pt,mv.length,rfl,gq.same k5,by lia,by lia,λws hw=>⟨D.pw ws hw,op ws hw⟩,λb H6 nb s6 Gb=>?_⟩;have hx6:=s6 _ _ hx5;have i6:xK H6 x:=⟨_,_,_,hx6⟩;walk_at "w";refine ⟨x,Z.a_System,dx,_,rfl,hx6,T.cl_System,T.na_put,bJ eP (bJ (d6 eP) (by show 2 < 1000;decide)),?_⟩;have e6:Fq x H6 (upd H6 x (.ins Z.a_System dx (cz "put" (.ref b) (cz "states" (.int mv.length) (cz "move" (.ref a) []))))):=Fq.upd;have hx7:(upd H6 x (.ins Z.a_System dx (cz "put" (.ref b) (cz "states" (.int mv.length) (cz "move" (.ref a) []))))) x=some (.ins Z.a_System dx (cz "put" (.ref b) (cz "states" (.int mv.length) (cz "move" (.ref a) [])))):=aK;have Ga7:=(Ga5.same s6).exc e6 i6;have Gb7:=(Gb.weak k5).exc e6 i6;have k7:aE Hb (upd H6 x (.ins Z.a_System dx (cz "put" (.ref b) (cz "states" (.int mv.length) (cz "move" (.ref a) []))))):=(k5.trans s6).after nx;generalize upd H6 x (.ins Z.a_System dx (cz "put" (.ref b) (cz "states" (.int mv.length) (cz "move" (.ref a) []))))=H7 at e6 hx7 Ga7 Gb7 k7 ⊢;obtain ⟨bs,gb,qb,_⟩:=id Gb7;have lb:=qb.length;walk_at "w";refine ⟨x,Z.a_System,dx,_,_,rfl,hx7,T.cl_System,T.na_put,(by rw[bM,if_pos rfl]),?_⟩;walk_at "w";refine ⟨_,_,rfl,.inl (bS.of gb),?_⟩;walk_at "w";refine ⟨x,Z.a_System,dx,_,rfl,hx7,T.cl_System,T.na_ins,bJ eP (bJ (d6 (ai eP (d6 eP))) (by show 3 < 1000;decide)),?_⟩;rw[show ((bs.length:Nat):Int)=((pt.length:Nat):Int) by rw[lb]];have i7:xK H7 x:=⟨_,_,_,hx7⟩;have e7:Fq x H7 (upd H7 x (.ins Z.a_System dx (cz "ins" (.int pt.length) (cz "put" (.ref b) (cz "states" (.int mv.length) (cz "move" (.ref a) [])))))):=Fq.upd;have hx8:(upd H7 x (.ins Z.a_System dx (cz "ins" (.int pt.length) (cz "put" (.ref b) (cz "states" (.int mv.length) (cz "move" (.ref a) [])))))) x=some (.ins Z.a_System dx (cz "ins" (.int pt.length) (cz "put" (.ref b) (cz "states" (.int mv.length) (cz "move" (.ref a) []))))):=aK;have Ga8:=Ga7.exc e7 i7;have Gb8:=Gb7.exc e7 i7;have k8:aE Hb (upd H7 x (.ins Z.a_System dx (cz "ins" (.int pt.length) (cz "put" (.ref b) (cz "states" (.int mv.length) (cz "move" (.ref a) [])))))):=k7.after nx;generalize upd H7 x (.ins Z.a_System dx (cz "ins" (.int pt.length) (cz "put" (.ref b) (cz "states" (.int mv.length) (cz "move" (.ref a) [])))))=H8 at e7 hx8 Ga8 Gb8 k8 ⊢;clear e6 e7 i6 i7 hx7 Ga7 Gb7 gb qb;walk_at "w";refine ⟨r,zs,2,4,rfl,k8 _ _ gz,by lia,?_⟩;walk_at "w";refine ⟨x,Z.a_System,dx,_,_,rfl,hx8,T.cl_System,T.na_states,(by rw[bM,if_neg (by decide +kernel),bM,if_neg (by decide +kernel),bM,if_pos rfl]),?_⟩;walk_at "w";refine ⟨r,H2,lk,mv.length,rfl,gr.same k8,by lia,by lia,λws hw=>⟨D.lw ws hw,ol ws hw⟩,λc H9 nc s9 Gc=>?_⟩;have hx9:=s9 _ _ hx8;have i9:xK H9 x:=⟨_,_,_,hx9⟩;walk_at "w";refine ⟨x,Z.a_System,dx,_,rfl,hx9,T.cl_System,T.na_look,bJ eP (bJ (d6 (ai eP (d6 (ai eP (d6 eP))))) (by show 4 < 1000;decide)),?_⟩;have e9:Fq x H9 (upd H9 x (.ins Z.a_System dx (cz "look" (.ref c) (cz "ins" (.int pt.length) (cz "put" (.ref b) (cz "states" (.int mv.length) (cz "move" (.ref a) []))))))):=Fq.upd;have hxA:(upd H9 x (.ins Z.a_System dx (cz "look" (.ref c) (cz "ins" (.int pt.length) (cz "put" (.ref b) (cz "states" (.int mv.length) (cz "move" (.ref a) []))))))) x=some (.ins Z.a_System dx (cz "look" (.ref c) (cz "ins" (.int pt.length) (cz "put" (.ref b) (cz "states" (.int mv.length) (cz "move" (.ref a) [])))))):=aK;have GaA:=(Ga8.same s9).exc e9 i9;have GbA:=(Gb8.same s9).exc e9 i9;have GcA:=(Gc.weak k8).exc e9 i9;have kA:aE Hb (upd H9 x (.ins Z.a_System dx (cz "look" (.ref c) (cz "ins" (.int pt.length) (cz "put" (.ref b) (cz "states" (.int mv.length) (cz "move" (.ref a) []))))))):=(k8.trans s9).after nx;generalize upd H9 x (.ins Z.a_System dx (cz "look" (.ref c) (cz "ins" (.int pt.length) (cz "put" (.ref b) (cz "states" (.int mv.length) (cz "move" (.ref a) []))))))=HA at e9 hxA GaA GbA GcA kA ⊢;obtain ⟨cs,gc,qc,_⟩:=id GcA;have lc:=qc.length;walk_at "w";refine ⟨x,Z.a_System,dx,_,_,rfl,hxA,T.cl_System,T.na_look,(by rw[bM,if_pos rfl]),?_⟩;walk_at "w";refine ⟨_,_,rfl,.inl (bS.of gc),?_⟩;walk_at "w";refine ⟨x,Z.a_System,dx,_,rfl,hxA,T.cl_System,T.na_outs,bJ eP (bJ (d6 (ai eP (d6 (ai eP (d6 (ai eP (d6 eP))))))) (by show 5 < 1000;decide)),?_⟩;rw[show ((cs.length:Nat):Int)=((lk.length:Nat):Int) by rw[lc]];have iA:xK HA x:=⟨_,_,_,hxA⟩;exact k _ (kA.after nx) ⟨dx,a,b,c,aK,back na,k5.none nb,k8.none nc,(GaA.exc Fq.upd iA).weak s0,GbA.exc Fq.upd iA,GcA.exc Fq.upd iA⟩
theorem BG:bu ["_law_grid"] ["_law_grid"] (ax ia):=by walk_at "d"
theorem pM (T:Txt K mg Z):cK P w K mg base gi 1 Z.nh Z.mM ["_law_grid"] (BA K):=by
 refine T.jA.ok BG (λvs H Q E h=>?_) (λcdv A outer s H vs Q E hr h=>?_)
 ·obtain ⟨p,H0,rows,rfl,_⟩:=h;rfl
 ·obtain ⟨p,H0,rows,rfl,hp,hl,hm,k⟩:=h;refine ⟨_,(az (aV (cC ["_law_row_here"] [] [] (cR (pv 0)) (λ_=>(aN (i:=0) (show List.Nodup (α:=PySem.Str) ["_law_row_here"] by decide +kernel))) (λ_=>cG) (λ_=>(d5 (fL K (by rfl)) (by rfl) T.list PyProof.Rows.boot_list (aa (pv 0) ag)))))),?_⟩;refine aS (σ:=[some (.ref p)]) rfl ?_;obtain ⟨xs,gx,qx,_⟩:=id hp;walk_at "w";refine ⟨⟨_,bS.of gx⟩,?_⟩;refine ff (K:=K) (F:=dF K H0) (dF K H) id gx qx hl (λa b=>a.same b) (λa b=>a.same b) ?_ ?_
  ·rintro i ns x H' NY NN en s ⟨u,rfl,_,zs,gz,qz⟩ k1;walk_at "w";refine ⟨u,zs,rfl,.inl (bS.of gz),λl1 hl1=>?_⟩;exact k1 _ _ (aE.new hl1) ⟨l1,rfl,s.none hl1,zs,aK,Paired.imp' (λ_ _ z=>z.same (aE.new hl1)) qz⟩
  ·rintro ys' H' r hr s g pr nx;rw[jB] at pr nx;exact k r H' hr s ⟨ys',g,pr,nZ nx⟩
theorem Ew:bu ["_law_parts_here"] ["_law_parts_here"] (ax j4):=by walk_at "d"
theorem EJ (T:Txt K mg Z):cK P w K mg base gi 7 Z.rf Z.qE ["_law_parts_here"] (Bq K Z.a_System):=by
 refine T.vV.ok Ew (λvs H Q E h=>?_) (λcdv A outer s H vs Q E hr h=>?_)
 ·obtain ⟨r,H0,mv,pt,lk,rfl,_⟩:=h;rfl
 ·obtain ⟨r,H0,mv,pt,lk,rfl,PQ,D,F,k⟩:=h;refine ⟨_,(az (aV (Oa T.mk_System (xX T) (hr.mono (by decide)) rfl T.mg_System T.qO .nil DD (aa (cP (pM T) hr T.kM T.jA.kp T.mQ (aa (bw bY (pv 0) aj) ag)) (aa (cP (pM T) hr T.kM T.jA.kp T.mQ (aa (bw bY (pv 0) aj) ag)) (aa (cP (pM T) hr T.kM T.jA.kp T.mQ (aa (bw bY (pv 0) aj) ag)) ag)))))),?_⟩;refine aS (σ:=[some (.ref r)]) rfl ?_;obtain ⟨m,p,l,g,n1,n2,n3,Gm,Gp,Gl⟩:=id PQ;have d1:=D.n8;have d2:=D.i4;have d3:=D.o4;walk_at "w";refine ⟨m,H0,mv,rfl,Gm,by lia,λxs hx=>by rw[D.mw xs hx];lia,λa H1 na s1 Ga=>?_⟩;have g1:=s1 _ _ g;walk_at "w";refine ⟨p,H0,pt,rfl,Gp.same s1,by lia,λxs hx=>by rw[D.pw xs hx];lia,λb H2 nb s2 Gb=>?_⟩;have s12:=s1.trans s2;have g2:=s12 _ _ g;walk_at "w";refine ⟨l,H0,lk,rfl,Gl.same s12,by lia,λxs hx=>by rw[D.lw xs hx];lia,λc H3 nc s3 Gc=>?_⟩;have s13:=s12.trans s3;walk_at "w";intro x dx nx ndx nex;exact ⟨x,dx,a,b,c,H3,H,H1,H2,mv,pt,lk,rfl,nx,ndx,nex,rfl,(Ga.same s2).same s3,Gb.same s3,Gc,D,F.ok.1,F.ok.2.1,F.ok.2.2,λH' s' S'=>⟨rfl,k x H' (s13.none nx) (s13.trans s') (S'.weak s13)⟩⟩
theorem mj:bu ["_law_bag_here","_law_parts_here","_law_bottoms","_law_row_here"] ["_law_bag_here","_law_parts_here"] (ax iT):=by walk_at "d"
theorem CY (T:Txt K mg Z):cK P w K mg base gi 2 Z.oN Z.ox ["_law_bag_here","_law_parts_here"] (Dm K):=by
 refine T.uq.ok mj (λvs H Q E h=>?_) (λcdv A outer s H vs Q E hr h=>?_)
 ·obtain ⟨b,r,H0,mv,pt,lk,rfl,_⟩:=h;rfl
 ·obtain ⟨b,r,H0,mv,pt,lk,rfl,hB,nb,PQ,D,sz,k⟩:=h
  refine ⟨_,(ar (bp (i:=2) mj.nd rfl (Or.inl rfl) (di (aa aj ag)))
   (ar (dR PassesOwn.never rfl (cR (bL kG (bw bY (pv 1) aj) (bw bY (pv 1) aj))) (aN (i:=3) mj.nd)
    (az (bp (i:=2) mj.nd rfl (Or.inl rfl) (bL kG (pv 2) (cC ["_law_one"] [] [] (cR (pv 3)) (λ_=>(aN (i:=0) (show List.Nodup (α:=PySem.Str) ["_law_one"] by decide +kernel))) (λ_=>cG) (λ_=>(bL eF (bw (tz K (by rfl)) (pv 0) aj) (bL dq (bL jw (bD yT (by rfl) T.abs PyProof.Rows.boot_abs (aa (bw (tz K (by rfl)) (pv 0) aj) ag)) aj) aj))))))))
   (ar (cO (bC xn (bD (KD rfl) (by rfl) T.max PyProof.Rows.boot_max (aa (pv 2) ag)) aj (bK _)) (az (aV (cP (aY T) hr T.aQ T.aX.kp T.be (aa (pv 0) (aa aj ag))))) bT)
   (ar (cO (bC xn (bD aZ (by rfl) T.len aP (aa (bw bY (pv 1) aj) ag)) aj (bK _)) (az (aV (bw bV (di (aa (cP (aY T) hr T.aQ T.aX.kp T.be (aa (pv 0) (aa aj ag))) (aa (bD aZ (by rfl) T.len aP (aa (bw bY (pv 1) aj) ag)) ag))) (cP (aY T) hr T.aQ T.aX.kp T.be (aa (pv 0) (aa aj ag)))))) bT)
   (ar (cO (PW.pt (kD (bC xm (bD aZ (by rfl) T.len aP (aa (bw bY (pv 1) aj) ag)) aj (bK _)) (mB (bC fq (cP (aY T) hr T.aQ T.aX.kp T.be (aa (pv 0) (aa aj ag))) aj (bK _))))) (az (aV (cP (aY T) hr T.aQ T.aX.kp T.be (aa (pv 0) (aa aj ag))))) bT)
   (az (aV (cP (aY T) hr T.aQ T.aX.kp T.be (aa (pv 0) (aa (bL eF aj (bD aZ (by rfl) T.len aP (aa (bw bY (pv 1) aj) ag))) ag)))))))))),?_⟩
  refine aS (σ:=[some (.ref b),some (.ref r),none,none]) rfl ?_;have d8:=D.n8;have i4:=D.i4;obtain ⟨m,p,l,g,n1,n2,n3,Gm,Gp,Gl⟩:=id PQ;obtain ⟨um,gm,qm,_⟩:=id Gm;obtain ⟨up,gp,qp,_⟩:=id Gp;have lum:=qm.length;have lup:=qp.length;walk_at "w";refine cQ λbl0 H1 s1 nbl g1=>?_
  have g':=s1 _ _ g;walk_at "w";refine kB (s1 _ _ gm) (s1 _ _ gp) (bc (bF (by lia))) λcc H2 s2 nc gc=>?_
  have s02:=s1.trans s2;have qc:Paired (dF K H0 H2) (mv++pt) (um++up):=Paired.imp' (λ_ _ z=>dF.same z s02) (bW qm qp)
  have wc:∀xs∈mv++pt,xs.length=mv.length:=λxs hx=>by
   rcases ay.mp hx with hx | hx
   ·exact D.mw xs hx
   ·exact D.pw xs hx
  have lc:(mv++pt).length=(um++up).length:=qc.length;rw[av,av] at lc;walk_at "w";refine ⟨⟨_,bS.of gc⟩,?_⟩;refine fW (K:=K) (a:=cc) (xs:=um++up) (λi σ' H'=>aE H2 H'/\∃bl ns y,σ'=[some (.ref b),some (.ref r),some (.ref bl),y]/\H' bl=some (.lst (ns.map V.int))/\1<=ns.length/\ns.length<=1+i*8/\∀j xs,j < i->(mv++pt)[j]?=some xs->∀x∈xs,QU x∈ns) ⟨aE.refl _,bl0,[1],_,rfl,s2 _ _ g1,by decide,by decide,λj xs h=>absurd h (fI _)⟩ (λi σ' H' _ ⟨e,_⟩=>bS.of (e _ _ gc)) ?_ ?_
  ·rintro i v σ' H' hv ⟨e,bl,ns,y,rfl,gb,b1,b2,hn⟩;obtain ⟨xs,exs,u,rfl,_,zs,gz,qz⟩:=cv qc hv;have mx:=aw exs;have wx:=wc xs mx;have hi:i < (um++up).length:=(aB.mp hv).1;rw[av] at hi;walk_at "w";refine ⟨⟨_,bS.of (e _ _ gz)⟩,?_⟩;refine ff (K:=K) (F:=cx K) (λ_ c x=>x=V.int (QU c)) id (e _ _ gz) (Paired.imp' (λ_ _ z=>z.same e) qz) (by lia) (λa b=>a.same b) (λa _=>a) ?_ ?_
   ·rintro j c x Ha NY NN ec sa ⟨pp,rfl,hp⟩ k1;have mc:=aw ec;have szc:=sz xs mx c mc;walk_at "w"
    have e1:(if (nm c).1 < 0 then -(nm c).1 else (nm c).1)=(c.num.natAbs:Int):=by
     show (if c.num < 0 then -c.num else c.num)=_
     split <;> lia
    have e2:(c.num.natAbs:Int).fdiv 1000=(c.num.natAbs:Int) / 1000:=cB _ (by decide);rw[e1];refine gL (show sI _ _ from ⟨by decide,bI (show (1000:Int).natAbs < 2^20 by decide) (au (by decide) (by decide))⟩) ?_;rw[e2];walk_at "w";exact k1 _ _ (aE.refl _) rfl
   rintro ys Hb cl hcl sb gcl prl _
   have ey:ys=(xs.map QU).map V.int:=by
    rw[jB] at prl;rw[xh];exact DE prl
   have ly:=prl.length;rw[ao] at ly;have gbb:=sb _ _ gb;rw[ey] at gcl;walk_at "w";refine kB gbb gcl (bc (bF (by rw[ao,ao,ao];lia))) λc2 Hc sc nc2 gc2=>?_
   rw[<- cS] at gc2;refine ⟨(e.trans sb).trans sc,c2,ns++xs.map QU,_,rfl,gc2,by rw[av];lia,by rw[av,ao];lia,λj ys' hj ej x hx=>?_⟩;rcases cN j i with z | z
   ·exact d9 _ (hn j ys' z ej x hx)
   ·have:j=i:=by lia
    subst this;rw[exs] at ej;cases ej;exact bG _ (aH.mpr ⟨x,hx,rfl⟩)
  ·rintro σ' H' ⟨e,bl,ns,y,rfl,gb,b1,b2,hn⟩;have e0:=s02.trans e;have B':=hB.same e0;have PQ':=PQ.same e0;obtain ⟨m',p',l',g2,_,_,_,Gm',_,_⟩:=id PQ'
   have em:m'=m:=by
    have:=e0 _ _ g;rw[this] at g2;cases g2;rfl
   subst em;obtain ⟨um',gm',qm',_⟩:=id Gm';have lum':=qm'.length;have u0:cV b H H':=e0.upto;walk_at "w";refine ⟨bl,ns,rfl,bS.of gb,by lia,λM hM hmax=>?_⟩;walk_at "w";refine iB (λh=>?_) (λh=>?_)
   ·walk_at "w";refine ⟨b,4,rfl,B',by decide,by decide,λv H3 v0 v1 B3 u3=>?_⟩;obtain ⟨v,rfl⟩:=bQ v0;exact k v H3 ⟨by lia,.inl (by lia)⟩ B3 (u0.trans u3)
   ·have M9:M<=9:=by rw[decide_eq_true_eq] at h;lia
    have sm:∀xs∈mv++pt,∀x∈xs,x.den<=9/\x.num.natAbs < 1000:=λxs hx x hx'=>by
     obtain ⟨j,hj,rfl⟩:=bX hx;have:=hn j _ (by rw[av,<- lum,<- lup];rw[av] at hj;exact hj) (af hj) x hx';exact Ov (Int.le_trans (hmax _ this) M9)
    walk_at "w";refine ⟨_,_,rfl,.inl (bS.of gm'),?_⟩;rw[<- lum'];walk_at "w";refine iB (λh1=>?_) (λh1=>?_)
    ·have n5:5 < mv.length:=by have:=of_decide_eq_true h1;lia
     walk_at "w";refine ⟨b,4,rfl,B',by decide,by decide,λv H3 v0 v1 B3 u3=>?_⟩;obtain ⟨v,rfl⟩:=bQ v0;obtain ⟨m3,p3,l3,g3,_,_,_,Gm3,_,_⟩:=PQ'.upto u3 B' nb;obtain ⟨um3,gm3,qm3,_⟩:=id Gm3;have lum3:=qm3.length;walk_at "w";refine ⟨_,_,rfl,.inl (bS.of gm3),?_⟩;rw[<- lum3];walk_at "w";refine cQ λl4 H4 s4 n4 g4=>?_
     walk_at "w";refine ⟨b,2,rfl,B3.same s4,by decide,by decide,λv2 H5 v20 v21 B5 u5=>?_⟩;have g5:=u5.other (λz=>B3.at (by rw[<- z];exact n4)) g4;obtain ⟨x,ex,mx,_⟩:=nK (xs:=[V.int (v:Int),V.int (mv.length:Int)]) v20 (by simpa using v21);walk_at "w";refine cJ (bS.of g5) ex ?_;have u05:=(u0.trans (u3.same s4)).trans u5;simp only[aD,aO,or_false] at mx;rcases mx with rfl | rfl
     ·exact k v H5 ⟨by lia,.inl (by lia)⟩ B5 u05
     ·exact k mv.length H5 ⟨by lia,.inr ⟨sm,λ_=>ak _,λ_ _=>uL _⟩⟩ B5 u05
    ·have n5:mv.length<=5:=by rw[decide_eq_true_eq] at h1;lia
     walk_at "w";refine ⟨_,_,rfl,.inl (bS.of gm'),?_⟩;rw[<- lum'];have last:∀(Hx:Hp),iC Hx b->cV b H Hx->∀(v:Nat),v < 2+mv.length->Q (.int v) Hx:=λHx Bx ux v hv=>k v Hx ⟨by lia,.inr ⟨sm,λz=>by lia,λ_ _=>by lia⟩⟩ Bx ux
     walk_at "w";refine iB (λh2=>?_) (λh2=>?_)
     ·have n3':mv.length < 3:=by have:=of_decide_eq_true h2;lia
      walk_at "w";refine ⟨b,8,rfl,B',by decide,by decide,λv H3 v0 v1 B3 u3=>?_⟩;walk_at "w";refine iB (λh3=>?_) (λh3=>?_)
      ·walk_at "w";refine ⟨b,13,rfl,B3,by decide,by decide,λv4 H4 v40 v41 B4 u4=>?_⟩;obtain ⟨v4,rfl⟩:=bQ v40;exact k v4 H4 ⟨by lia,.inr ⟨sm,λz=>by lia,λz _=>by lia⟩⟩ B4 ((u0.trans u3).trans u4)
      ·obtain ⟨m3,p3,l3,g3,_,_,_,Gm3,_,_⟩:=PQ'.upto u3 B' nb;obtain ⟨um3,gm3,qm3,_⟩:=id Gm3;have lum3:=qm3.length;walk_at "w";refine ⟨_,_,rfl,.inl (bS.of gm3),?_⟩;rw[<- lum3];walk_at "w";rw[show ((2:Int)+(mv.length:Int))=((2+mv.length:Nat):Int) by lia];refine ⟨b,2+mv.length,rfl,B3,by lia,by lia,λv4 H4 v40 v41 B4 u4=>?_⟩;obtain ⟨v4,rfl⟩:=bQ v40;exact last H4 B4 ((u0.trans u3).trans u4) v4 (by lia)
     ·walk_at "w";refine ⟨_,_,rfl,.inl (bS.of gm'),?_⟩;rw[<- lum'];walk_at "w";rw[show ((2:Int)+(mv.length:Int))=((2+mv.length:Nat):Int) by lia];refine ⟨b,2+mv.length,rfl,B',by lia,by lia,λv4 H4 v40 v41 B4 u4=>?_⟩;obtain ⟨v4,rfl⟩:=bQ v40;exact last H4 B4 (u0.trans u4) v4 (by lia)
theorem pX:bu ["_law_one","_law_other","_law_total","_law_k"] ["_law_one","_law_other"] (ax lN):=by walk_at "d"
theorem vn (T:Txt K mg Z):cK P w K mg base gi 3 Z.ue Z.tK ["_law_one","_law_other"] (Ej K):=by
 refine T.pR.ok pX (λvs H Q E h=>?_) (λcdv A outer s H vs Q E hr h=>?_)
 ·obtain ⟨p,q,xs,ys,rfl,_⟩:=h;rfl
 ·obtain ⟨p,q,xs,ys,rfl,hp,hq,hl,hz,⟨k1,j1,k2,j2,h1,h2,hkj⟩,kk⟩:=h
  refine ⟨_,(ar (bp (i:=2) pX.nd rfl (Or.inl rfl) (cL (aa aj (aa aj ag))))
   (ar (dR PassesOwn.never rfl (cu rfl T.range (aa (bD aZ (by rfl) T.len aP (aa (pv 0) ag)) ag)) (aN (i:=3) pX.nd)
    (az (bp (i:=2) pX.nd rfl (Or.inl rfl) (cP (nE T) hr T.ke T.jO.kp T.lY (aa (pv 2) (aa (cP (oa T) hr T.kL T.ki.kp T.nJ (aa (bw bV (pv 0) (pv 3)) (aa (bw bV (pv 1) (pv 3)) ag))) ag))))))
   (az (aV (pv 2))))),?_⟩
  refine aS (σ:=[some (.ref p),some (.ref q),none,none]) rfl ?_;obtain ⟨us,gu,qu⟩:=id hp;obtain ⟨ws,gw,qw⟩:=id hq;have lu:=qu.length;have lw:=qw.length;walk_at "w";refine bZ λr0 H0 s0 g0=>?_
  walk_at "w";refine ⟨_,_,rfl,.inl (bS.of (s0 _ _ gu)),?_⟩;walk_at "w";refine ⟨by lia,by lia,?_⟩;refine eN (n:=us.length) (λi σ' H'=>aE H H'/\∃(r:V) (v:Option V),σ'=[some (.ref p),some (.ref q),some r,v]/\cx K H' (eC (xs.take i) (ys.take i)) r) ⟨s0,_,none,rfl,cx.mk g0 rfl⟩ ?_ ?_
  ·rintro i σ' H' hi ⟨s,r,v,rfl,hr⟩;have ix:i < xs.length:=by lia
   have iy:i < ys.length:=by lia
   obtain ⟨vx,ex,nx⟩:=Kt (Paired.imp' (λ_ _ z=>z.same s) qu) ix;obtain ⟨vy,ey,ny⟩:=Kt (Paired.imp' (λ_ _ z=>z.same s) qw) iy;walk_at "w";refine cJ (bS.of (s _ _ gu)) ex ?_;walk_at "w";refine cJ (bS.of (s _ _ gw)) ey ?_;walk_at "w";refine ⟨_,_,_,_,rfl,nx,ny,h1.szn (getD_mem ix) (by lia),h2.szn (getD_mem iy) (by lia),λr3 H3 s3 n3=>?_⟩;walk_at "w";refine ⟨_,_,_,_,rfl,hr.same s3,n3,Mx h1 h2 hz i hkj,LQ (h1.one (getD_mem ix)) (h2.one (getD_mem iy)) hkj,λr4 H4 s4 n4=>?_⟩;walk_at "w";exact ⟨(s.trans s3).trans s4,_,_,rfl,by rw[DN ix iy];exact n4⟩
  ·rintro σ' H' ⟨s,r,v,rfl,hr⟩;rw[aG (by lia),aG (by lia)] at hr;obtain ⟨t,rfl,ht⟩:=hr;walk_at "w";exact kk _ H' s ⟨t,rfl,ht⟩
theorem HL:bu ["_law_grid","_law_row_here"] ["_law_grid","_law_row_here"] (ax pz):=by walk_at "d"
theorem xW (T:Txt K mg Z):cK P w K mg base gi 4 Z.wZ Z.wI ["_law_grid","_law_row_here"] (Ei K):=by
 refine T.sH.ok HL (λvs H Q E h=>?_) (λcdv A outer s H vs Q E hr h=>?_)
 ·obtain ⟨p,q,H0,rows,ys,rfl,_⟩:=h;rfl
 ·obtain ⟨p,q,H0,rows,ys,rfl,hp,hq,hz,hl,hr1,kk⟩:=h;refine ⟨_,(az (aV (cC ["_law_one"] ["_law_row_here"] [1] (cR (pv 0)) (λ_=>(aN (i:=0) (show List.Nodup (α:=PySem.Str) ["_law_one","_law_row_here"] by decide +kernel))) (λ_=>cG) (λ_=>(cP (vn T) hr T.p6 T.pR.kp T.tV (aa (pv 0) (aa (pv 1) ag))))))),?_⟩;refine aS (σ:=[some (.ref p),some (.ref q)]) rfl ?_;obtain ⟨xs,gx,qx,_⟩:=id hp;walk_at "w";refine ⟨⟨_,bS.of gx⟩,?_⟩;refine ff (K:=K) (F:=dF K H0) (cx K) (λxs=>eC xs ys) gx qx hz (λa b=>a.same b) (λa b=>a.same b) ?_ ?_
  ·rintro i ns x H' NY NN en s ⟨u,rfl,_,hu⟩ k;obtain ⟨e1,e2⟩:=hr1 ns (aw en);walk_at "w";exact ⟨u,q,ns,ys,rfl,hu,hq.same s,e1.symm,by lia,e2,λr H2 s2 h2'=>k _ _ s2 h2'⟩
  ·rintro ys' H' r hr s g pr nx;exact kk r H' hr s ⟨ys',g,pr⟩
theorem gJ:bu ["_law_parts_here","_law_state","_law_puts_here","_law_move_here","_law_put","_law_look","_law_found","_law_k"] ["_law_parts_here","_law_state","_law_puts_here"] (ax jY):=by walk_at "d"
theorem EH (T:Txt K mg Z):cK P w K mg base gi 5 Z.qY Z.qC ["_law_parts_here","_law_state","_law_puts_here"] (FK K):=by
 refine T.vT.ok gJ (λvs H Q E h=>?_) (λcdv A outer s H vs Q E hr h=>?_)
 ·obtain ⟨r,s0,u0,H0,mv,pt,lk,st,pu,rfl,_⟩:=h;rfl
 ·obtain ⟨r,s0,u0,H0,mv,pt,lk,st,pu,rfl,PQ,D,hs,hu,l1,l2,NX,k⟩:=h
  refine ⟨_,(ar (fz (pv 0) (va rfl (cH (aN (i:=3) gJ.nd) (cH (aN (i:=4) gJ.nd) (cH (aN (i:=5) gJ.nd) jc)))))
   (ar (bp (i:=6) gJ.nd rfl (Or.inl rfl) (cP (xW T) hr T.tu T.sH.kp T.wN (aa (pv 3) (aa (pv 1) ag))))
   (ar (dR PassesOwn.never rfl (cu rfl T.range (aa (bD aZ (by rfl) T.len aP (aa (pv 4) ag)) ag)) (aN (i:=7) gJ.nd)
    (az (bp (i:=6) gJ.nd rfl (Or.inl rfl) (cP (yw T) hr T.tq T.rk.kp T.vK (aa (pv 6) (aa (cP (BX T) hr T.ya T.xc.kp T.z7 (aa (bw bV (pv 2) (pv 7)) (aa (bw bV (pv 4) (pv 7)) ag))) ag))))))
   (az (aV (pv 6)))))),?_⟩
  refine aS (σ:=[some (.ref r),some (.ref s0),some (.ref u0),none,none,none,none,none]) rfl ?_;obtain ⟨m,p,l,g,n1,n2,n3,Gm,Gp,Gl⟩:=id PQ;have d1:=D.n8;have d2:=D.i4;walk_at "w";refine ⟨m,s0,H0,mv,st,rfl,Gm,hs,by lia,by lia,λxs hx=>⟨by rw[D.mw xs hx,l1],NX.f2 xs hx⟩,λf H1 nf s1 R1=>?_⟩;obtain ⟨ps,gp,qp,_⟩:=Gp.same s1;have lp:=qp.length;walk_at "w";refine ⟨_,_,rfl,.inl (bS.of gp),?_⟩;walk_at "w";refine ⟨by lia,by lia,?_⟩;refine eN (n:=ps.length) (λkk σ' H'=>∃(f:Addr) (x:Option V),σ'=[some (.ref r),some (.ref s0),some (.ref u0),some (.ref m),some (.ref p),some (.ref l),some (.ref f),x]/\H f=none/\aE H1 H'/\cw K H' f (nextK mv pt st pu kk)) ⟨f,none,rfl,nf,aE.refl _,by rw[Ig];exact R1⟩ ?_ ?_
  ·rintro kk σ' H' hk ⟨f',x,rfl,nf',s',R'⟩;have kp:kk < pt.length:=by lia
   have ku:kk < pu.length:=by lia
   obtain ⟨zs,gz,qz⟩:=(hu.same s1).same s';have lz:=qz.length;obtain ⟨vu,eu,nu⟩:=Kt qz ku;obtain ⟨row,vr,er,ev,mr,q,rfl,_,Rq⟩:=jL qp kp
   have er':pt[kk]=row:=by
    rw[af kp] at er;exact ck er
   have eu':pu.getD kk 0=pu[kk]:=by rw[ae,af ku];rfl
   have mu:pu.getD kk 0∈pu:=getD_mem ku;walk_at "w";refine cJ (bS.of gz) eu ?_;walk_at "w";refine cJ (bS.of (s' _ _ gp)) (fF ev) ?_;walk_at "w";refine ⟨vu,q,_,row,rfl,nu,NX.su _ mu,Rq.same s',by rw[D.pw row mr];lia,NX.sp row mr,λr1 H2 n1' s2 R2=>?_⟩;walk_at "w";refine ⟨f',r1,_,_,rfl,R'.same s2,R2,by rw[ao,kb,D.pw row mr],by rw[kb];lia,NX.part kk,λy hy=>?_,λr2 H3 n2' s3 R3=>?_⟩
   ·obtain ⟨y',hy',rfl⟩:=aH.mp hy;exact NX.mul _ mu row mr y' hy'
   ·walk_at "w";refine ⟨s1.none (s'.none (s2.none n2')),(s'.trans s2).trans s3,?_⟩;have e:=Ih (st:=st) (pu:=pu) (λxs hx=>by rw[D.mw xs hx,l1]) kp ku (by rw[er'];exact D.pw row mr);rw[er',<- eu'] at e;rw[<- e];exact R3
  ·rintro σ' H' ⟨f',x,rfl,nf',s',R'⟩;rw[wo (by lia) (by lia)] at R';walk_at "w";exact k f' H' nf' (s1.trans s') R'
theorem pW:bu ["_law_parts_here","_law_start","_law_rows","_law_state","_law_puts_here"] ["_law_parts_here","_law_start","_law_rows"] (ax lM):=by walk_at "d"
theorem Al (T:Txt K mg Z):cK P w K mg base gi 6 Z.uc Z.tJ ["_law_parts_here","_law_start","_law_rows"] (IY K):=by
 refine T.uA.ok pW (λvs H Q E h=>?_) (λcdv A outer s H vs Q E hr h=>?_)
 ·obtain ⟨r,s,p,H0,H1,mv,pt,lk,pus,st,rfl,_⟩:=h;rfl
 ·obtain ⟨r,s,p,H0,H1,mv,pt,lk,pus,st,rfl,PQ,D,Rs,ls,Gp,lp,wp,EF,k⟩:=h
  refine ⟨_,(ar (bp (i:=3) pW.nd rfl (Or.inl rfl) (d5 (fL K (by rfl)) (by rfl) T.list PyProof.Rows.boot_list (aa (pv 1) ag)))
   (ar (dR PassesOwn.never rfl (cR (pv 2)) (aN (i:=4) pW.nd)
    (az (bp (i:=3) pW.nd rfl (Or.inl rfl) (cP (EH T) hr T.yC T.vT.kp T.Av (aa (pv 0) (aa (pv 3) (aa (pv 4) ag)))))))
   (az (aV (pv 3))))),?_⟩
  refine aS (σ:=[some (.ref r),some (.ref s),some (.ref p),none,none]) rfl ?_;have d1:=D.n8;obtain ⟨ss,gs,qs⟩:=id Rs;obtain ⟨ps,gp,qp,_⟩:=id Gp;have lps:=qp.length;walk_at "w";refine ⟨s,ss,rfl,.inl (bS.of gs),λc hc=>?_⟩;have sc:aE H (upd H c (.lst ss)):=aE.new hc;have Rc:cw K (upd H c (.lst ss)) c st:=⟨ss,aK,Paired.imp' (λ_ _ z=>z.same sc) qs⟩;generalize upd H c (.lst ss)=Hc at sc Rc ⊢;walk_at "w";refine ⟨⟨_,bS.of (sc _ _ gp)⟩,?_⟩;refine fW (K:=K) (a:=p) (xs:=ps) (λi σ' H'=>aE H H'/\∃q y,σ'=[some (.ref r),some (.ref s),some (.ref p),some (.ref q),y]/\H q=none/\cw K H' q (sP mv pt st pus i)) ⟨sc,c,_,rfl,hc,Rc⟩ (λi σ' H' _ ⟨e,_⟩=>bS.of (e _ _ gp)) ?_ ?_
  ·rintro i v σ' H' hv ⟨e,q,y,rfl,nq,Rq⟩;obtain ⟨pu,epu,u,rfl,_,Ru⟩:=cv qp hv;have hi:i < pus.length:=(aB.mp epu).1;have mp:=aw epu;walk_at "w";refine ⟨r,q,u,H0,mv,pt,lk,_,pu,rfl,PQ.same e,D,Rq,cw.same Ru e,sO ls (by lia),wp pu mp,EF.nx D ls wp (by lia) epu,λq2 H2 n2 s2 R2=>?_⟩;rw[<- uW epu] at R2;exact ⟨e.trans s2,q2,_,rfl,e.none n2,R2⟩
  ·rintro σ' H' ⟨e,q,y,rfl,nq,Rq⟩;rw[<- lps] at Rq;walk_at "w";exact k q H' nq e Rq
theorem Es:bu ["_law_bag_here","_law_parts_here","_law_steps_here","_law_wide"] ["_law_bag_here","_law_parts_here","_law_steps_here","_law_wide"] (ax jV):=by walk_at "d"
theorem EG (T:Txt K mg Z):cK P w K mg base gi 4 Z.qV Z.qq ["_law_bag_here","_law_parts_here","_law_steps_here","_law_wide"] (FH K):=by
 refine T.vS.ok Es (λvs H Q E h=>?_) (λcdv A outer s H vs Q E hr h=>?_)
 ·obtain ⟨b,r,tt,w,H0,mv,pt,lk,rfl,_⟩:=h;rfl
 ·obtain ⟨b,r,tt,w,H0,mv,pt,lk,rfl,hT,w1,w2,hB,nb,PQ,D,k⟩:=h;refine ⟨_,(az (aV (cC ["_law_turn"] ["_law_bag_here","_law_parts_here","_law_wide"] [0,1,3] (cu rfl T.range (aa (pv 2) ag)) (λ_=>(aN (i:=0) (show List.Nodup (α:=PySem.Str) ["_law_turn","_law_bag_here","_law_parts_here","_law_wide"] by decide +kernel))) (λ_=>cG) (λ_=>(cP (j9 T) hr T.gE T.gN.kp T.iK (aa (pv 1) (aa (bD (C9 K (by rfl)) (by rfl) T.len aP (aa (bw (tz K (by rfl)) (pv 2) aj) ag)) (aa (pv 3) ag)))))))),?_⟩;refine aS (σ:=[some (.ref b),some (.ref r),some (.int tt),some (.int w)]) rfl ?_;have i4:=D.i4;walk_at "w";refine ⟨by lia,by lia,?_⟩
  refine zY (n:=tt) (b:=b) (dF K H) (λxs=>xs.length=pt.length/\∀x∈xs,Dr (max w 6) x) hB (by lia) (λ{H' H'' c x} a u B=>by
   obtain ⟨q,e,nq,R⟩:=a;exact ⟨q,e,nq,R.upto u B (λz=>hB.at (by rw[<- z];exact nq))⟩) ?_ ?_
  ·rintro i Ha NY NN hi ua Ba k1;obtain ⟨m,p,l,g,n1,n2,n3,Gm,Gp,Gl⟩:=PQ.upto ua hB nb;obtain ⟨up,gp,qp,_⟩:=id Gp;have lup:=qp.length;walk_at "w";refine ⟨_,_,rfl,.inl (bS.of gp),?_⟩;rw[<- lup];walk_at "w";refine ⟨b,pt.length,w,rfl,Ba,by lia,w1,by lia,λq xs Hb nq R lx dx Bb ub=>?_⟩;exact k1 _ xs _ ub Bb ⟨lx,dx⟩ ⟨q,rfl,ua.none Ba nq,R⟩
  ·rintro ys cs Hz t ht uz Bz gz lc hc prz nx;exact k t cs Hz ht ⟨ys,gz,prz,nZ nx⟩ lc hc Bz uz
theorem sU:bu ["_law_bag_here","_law_parts_here","_law_start","_law_steps_here","_law_wide","_law_goal_here","_law_at"] ["_law_bag_here","_law_parts_here","_law_start","_law_steps_here","_law_wide"] (ax j8):=by walk_at "d"
theorem EM (T:Txt K mg Z):cK P w K mg base gi 7 Z.rj Z.qH ["_law_bag_here","_law_parts_here","_law_start","_law_steps_here","_law_wide"] (FP K):=by
 refine T.vX.ok sU (λvs H Q E h=>?_) (λcdv A outer s H vs Q E hr h=>?_)
 ·obtain ⟨b,r,s,tt,w,H0,mv,pt,lk,st,rfl,_⟩:=h;rfl
 ·obtain ⟨b,r,s,tt,w,H0,mv,pt,lk,st,rfl,hT,w1,w2,hB,nb,PQ,D,Rs,sb,ls,EN,k⟩:=h
  refine ⟨_,(ar (cO (bC fq (cP (aY T) hr T.aQ T.aX.kp T.be (aa (pv 0) (aa aj ag))) aj (bK _)) (az (aV (cP (j9 T) hr T.gE T.gN.kp T.iK (aa (pv 0) (aa (bD aZ (by rfl) T.len aP (aa (pv 2) ag)) (aa (pv 4) ag)))))) bT)
   (ar (bp (i:=5) sU.nd rfl (Or.inl rfl) (cP (Al T) hr T.vB T.uA.kp T.ye (aa (pv 1) (aa (pv 2) (aa (cP (EG T) hr T.yB T.vS.kp T.Au (aa (pv 0) (aa (pv 1) (aa (pv 3) (aa (pv 4) ag))))) ag)))))
   (ar (cO (PW.pt (kD (bC xn (bD aZ (by rfl) T.len aP (aa (pv 5) ag)) aj (bK _)) (mB (bC fq (cP (aY T) hr T.aQ T.aX.kp T.be (aa (pv 0) (aa aj ag))) aj (bK _))))) (ar (bp (i:=6) sU.nd rfl (Or.inl rfl) (cP (aY T) hr T.aQ T.aX.kp T.be (aa (pv 0) (aa (bD aZ (by rfl) T.len aP (aa (pv 5) ag)) ag))))
   (az (fz (cP (nE T) hr T.ke T.jO.kp T.lY (aa (bw bV (pv 5) (pv 6)) (aa (cL (aa aj (aa (bL eF aj (cP (aY T) hr T.aQ T.aX.kp T.be (aa (pv 0) (aa aj ag)))) ag))) ag))) (ic (pv 5) (pv 6) set_list)))) bT)
   (az (aV (pv 5)))))),?_⟩
  refine aS (σ:=[some (.ref b),some (.ref r),some (.ref s),some (.int tt),some (.int w),none,none]) rfl ?_;have d8:=D.n8;walk_at "w";refine ⟨b,2,rfl,hB,by decide,by decide,λv H1 v0 v1 B1 u1=>?_⟩;have Rs1:=Rs.upto u1 hB sb;obtain ⟨zs,gz,qz⟩:=id Rs1;have lz:=qz.length;walk_at "w";refine iB (λh=>?_) (λh=>?_)
  ·walk_at "w";refine ⟨_,_,rfl,.inl (bS.of gz),?_⟩;rw[<- lz];walk_at "w";refine ⟨b,st.length,w,rfl,B1,by lia,w1,by lia,λq xs H2 nq R2 l2 d2 B2 u2=>?_⟩;exact k q xs H2 (u1.none B1 nq) R2 (by lia) (.inl d2) B2 (u1.trans u2)
  ·have PQ1:=PQ.upto u1 hB nb;walk_at "w";refine ⟨b,r,tt,w,H0,mv,pt,lk,rfl,hT,w1,w2,B1,nb,PQ1,D,λp pus H2 np Gp lp dp B2 u2=>?_⟩;have DP:SI pt tt w pus:=⟨lp,dp⟩;have EF:=EN pus DP;have wp:∀xs∈pus,xs.length=pt.length:=λxs hx=>(dp xs hx).1
   have u02:=u1.trans u2;walk_at "w";refine ⟨r,s,p,H0,H1,mv,pt,lk,pus,st,rfl,PQ1.upto u2 B1 nb,D,Rs1.upto u2 B1 sb,ls,Gp,by lia,wp,EF,λg H3 ng s3 Rg=>?_⟩;rw[lp] at Rg;have B3:=B2.same s3;have u03:cV b H H3:=u02.same s3;have ng0:H g=none:=u02.none B2 ng;have gb:g≠b:=λz=>B2.at (by rw[<- z];exact ng)
   have lst:(sP mv pt st pus tt).length=mv.length:=sO ls (by lia);have fin0:∀H':Hp,cV b H3 H'->iC H' b->Q (.ref g) H':=λH' u B=>k g _ H' ng0 (Rg.upto u B3 gb) lst (.inr ⟨pus,DP,.inl rfl⟩) B (u03.trans u)
   obtain ⟨ys,gy,qy⟩:=id Rg;have ly:=qy.length;rw[lst] at ly;walk_at "w";refine ⟨_,_,rfl,.inl (bS.of gy),?_⟩;rw[<- ly];walk_at "w";refine iB (λh1=>?_) (λh1=>?_)
   ·have np0:0 < mv.length:=by have:=of_decide_eq_true h1;lia
    walk_at "w";refine ⟨b,4,rfl,B3,by decide,by decide,λv4 H4 v40 v41 B4 u4=>?_⟩;walk_at "w";refine iB (λh2=>?_) (λh2=>?_)
    ·obtain ⟨ys4,gy4,qy4⟩:=Rg.upto u4 B3 gb;have ly4:=qy4.length;rw[lst] at ly4;walk_at "w";refine ⟨_,_,rfl,.inl (bS.of gy4),?_⟩;rw[<- ly4];walk_at "w";refine ⟨b,mv.length,rfl,B4,by lia,by lia,λat' H5 a0 a1 B5 u5=>?_⟩;obtain ⟨at',rfl⟩:=bQ a0;have u35:=u4.trans u5;obtain ⟨ys5,gy5,qy5⟩:=Rg.upto u35 B3 gb;have ly5:=qy5.length;rw[lst] at ly5;obtain ⟨vx,ex,nx⟩:=Kt qy5 (j:=at') (by rw[lst];lia);walk_at "w";refine cJ (bS.of gy5) ex ?_;walk_at "w";refine ⟨b,3,rfl,B5,by decide,by decide,λv6 H6 v60 v61 B6 u6=>?_⟩;obtain ⟨v6,rfl⟩:=bQ v60;walk_at "w";refine bZ λt7 H7 s7 g7=>?_
     rw[show ((1:Int)+(v6:Int))=((v6+1:Nat):Int) by lia] at g7;have u37:cV b H3 H7:=(u35.trans u6).same s7;obtain ⟨ys7,gy7,qy7⟩:=Rg.upto u37 B3 gb;have ly7:=qy7.length;rw[lst] at ly7
     have e57:ys7=ys5:=by
      have:=(u6.same s7).other gb gy5;rw[gy7] at this;cases this;rfl
     have szst:=EF.szn D ls wp (k:=tt) (by lia);have mx:(sP mv pt st pus tt).getD at' 0∈sP mv pt st pus tt:=getD_in (by rw[lst];lia);have szu:ug (Nf v6):=tD (by decide) (show 6<=2^3 by decide) (show 1<=2^0 by decide) (by decide) (OG (by lia));walk_at "w";refine ⟨_,_,(sP mv pt st pus tt).getD at' 0,Nf v6,rfl,(nx.upto (u6.same s7) B5),cx.mk (q:=Nf v6) g7 rfl,szst _ mx,szu,λr8 H8 s8 N8=>?_⟩;have gy8:=s8 _ _ gy7;have B8:=(B6.same s7).same s8;have u38:=u37.same s8;obtain ⟨q0,I0,xq0,gq0⟩:=hB.inner;have gq:g≠q0:=λz=>by rw[<- z,ng0] at gq0;cases gq0
     have u08:cV b H H8:=u03.trans u38;have I8:=u08.2 _ I0;walk_at "w";refine fu gy8 (fE (by lia)) rfl ?_;walk_at "w";exact k g _ _ ng0 ⟨_,aK,xS (N8.updL gy8) at' (Paired.imp' (λ_ _ z=>(z.same s8).updL gy8) qy7)⟩ (by rw[dY];exact lst) (.inr ⟨pus,DP,.inr ⟨at',v6,by lia,rfl⟩⟩) (B8.upd I8 gb gq) (u08.after ng0)
    ·walk_at "w";exact fin0 H4 u4 B4
   ·walk_at "w";exact fin0 H3 (aE.refl _).upto B3
theorem En:bu ["row","bottom"] ["row","bottom"] (ax jQ):=by walk_at "d"
theorem yu (T:Txt K mg Z):cK P w K mg base gi 1 Z.qQ Z.qe ["row","bottom"] (FF K):=by
 refine T.nO.ok En (λvs H Q E h=>?_) (λcdv A outer s H vs Q E hr h=>?_)
 ·obtain ⟨p,ns,M,B,rfl,_⟩:=h;rfl
 ·obtain ⟨p,ns,M,B,rfl,hp,hl,hz,hB,sB,q⟩:=h;refine ⟨_,(az (aV (cC ["value"] ["bottom"] [1] (cR (pv 0)) (λ_=>(aN (i:=0) (show List.Nodup (α:=PySem.Str) ["value","bottom"] by decide +kernel))) (λ_=>cG) (λ_=>(bL dq (bw (tz K (by rfl)) (pv 0) aj) (bL jw (pv 1) (bw (tz K (by rfl)) (pv 0) aj))))))),?_⟩;refine aS (σ:=[some (.ref p),some (.int B)]) rfl ?_;obtain ⟨xs,gx,qx⟩:=id hp;have lx:=qx.length;walk_at "w";refine ⟨⟨_,bS.of gx⟩,?_⟩;refine fY (K:=K) (xs:=xs) (λi ys H'=>H'=H/\ys=(fN (ns.take i) B).map V.int) (bc (bF (by lia))) ⟨rfl,rfl⟩ (λi ys H' _ ⟨e,_⟩=>by subst e;exact bS.of gx) ?_ ?_
  ·rintro i x ys H' hx hlen ⟨rfl,rfl⟩;obtain ⟨n,en,r,rfl,hr1⟩:=cv qx hx;have nz:=hz.2.2 n (aw en);have sn:Sz 4400 n.2:=EY hz.1 nz.2.1 hz.2.1;walk_at "w";refine gL (show sI _ _ from ⟨by lia,sn.mono (by decide)⟩) ?_;rw[cB _ (by lia)]
   have sq:Sz 4400 (B / n.2):=sB.le (by
    rw[QR (by lia)];exact Nat.div_le_self ..)
   walk_at "w";refine gL (show js _ _ from .inr ⟨_,_,nz.2.2,sq,by decide⟩) ?_;exact ⟨rfl,by rw[take_snoc en];simp [fN]⟩
  ·rintro ys H' hy ⟨rfl,rfl⟩ l hl';exact q l _ hl' (aE.new hl') (by rw[aK,aG (by lia)])
theorem gH:bu ["wholes","multiple","whole"] ["wholes"] (ax eI):=by walk_at "d"
theorem xV (T:Txt K mg Z):cK P w K mg base gi 2 Z.iq Z.il ["wholes"] (Le K):=by
 refine T.kY.ok gH (λvs H Q E h=>?_) (λcdv A outer s H vs Q E hr h=>?_)
 ·obtain ⟨p,bs,M,rfl,_⟩:=h;rfl
 ·obtain ⟨p,bs,M,rfl,hp,hM,sM,hb,q⟩:=h
  refine ⟨_,(ar (bp (i:=1) gH.nd rfl (Or.inl rfl) aj)
   (ar (dR PassesOwn.never rfl (cR (pv 0)) (aN (i:=2) gH.nd)
    (az (bp (i:=1) gH.nd rfl (Or.inl rfl) (bL dq (pv 1) (bL jw (pv 2) (cP (kH T) hr T.ik T.gh.kp T.ji (aa (pv 1) (aa (pv 2) ag))))))))
   (az (aV (pv 1))))),?_⟩
  refine aS (σ:=[some (.ref p),none,none]) rfl ?_;walk_at "w";refine ⟨⟨_,hp⟩,?_⟩;refine fW (K:=K) (a:=p) (xs:=bs.map V.int) (λi σ' H'=>H'=H/\∃x,σ'=[some (.ref p),some (.int (zS (bs.take i) 1)),x]) ⟨rfl,none,rfl⟩ (λi σ' H' _ ⟨e,_⟩=>by subst e;exact hp) ?_ ?_
  ·rintro i x σ' H' hx ⟨rfl,y,rfl⟩;rw[aM] at hx
   obtain ⟨b,eb,rfl⟩:∃b,bs[i]?=some b/\x=.int b:=by
    cases e:bs[i]? with
    | none=>rw[e] at hx;cases hx
    | some b=>rw[e] at hx;cases hx;exact ⟨b,rfl,rfl⟩
   have b1:=hb b (aw eb);have sb:Sz 4400 b:=EY hM b1.2 sM;have ht:∀c∈bs.take i,0 < c/\c∣M:=λc hc=>hb c (cA hc)
   have msz:Sz 4400 (zS (bs.take i) 1):=EY hM (A1 (by decide) (Int.one_dvd _) ht) sM;generalize hm:zS (bs.take i) 1=m at msz ⊢;have gp:0 < g m b:=Co (by lia);walk_at "w";refine ⟨m,b,rfl,?_⟩;walk_at "w";refine gL (show sI _ _ from ⟨by lia,(S4 b1.1 sb).mono (by decide)⟩) ?_;rw[cB _ (by lia)];walk_at "w";refine gL (show js _ _ from .inr ⟨_,_,msz,sb.hi (t:=m) (by lia),by decide⟩) ?_;walk_at "w";exact ⟨rfl,_,by rw[take_snoc eb,DK,hm];rfl⟩
  ·rintro σ' H' ⟨rfl,y,rfl⟩;walk_at "w";rw[aG (by simp)];exact q
theorem zK:bu ["row"] ["row"] (ax fA):=by walk_at "d"
theorem so (T:Txt K mg Z):cK P w K mg base gi 3 Z.jF Z.jD ["row"] (Lf K):=by
 refine T.gQ.ok zK (λvs H Q E h=>?_) (λcdv A outer s H vs Q E hr h=>?_)
 ·obtain ⟨p,ns,M,rfl,_⟩:=h;rfl
 ·obtain ⟨p,ns,M,rfl,hp,hl,hz,q⟩:=h;refine ⟨_,(az (aV (cP (xV T) hr T.pO T.kY.kp T.qL (aa (cC ["value"] [] [] (cR (pv 0)) (λ_=>(aN (i:=0) (show List.Nodup (α:=PySem.Str) ["value"] by decide +kernel))) (λ_=>cG) (λ_=>(bw (tz K (by rfl)) (pv 0) aj))) ag)))),?_⟩;refine aS (σ:=[some (.ref p)]) rfl ?_;obtain ⟨xs,gx,qx⟩:=id hp;have lx:=qx.length;walk_at "w";refine ⟨⟨_,bS.of gx⟩,?_⟩;refine fY (K:=K) (xs:=xs) (λi ys H'=>H'=H/\ys=((ns.take i).map (·.2)).map V.int) (bc (bF (by lia))) ⟨rfl,rfl⟩ (λi ys H' _ ⟨e,_⟩=>by subst e;exact bS.of gx) ?_ ?_
  ·rintro i x ys H' hx hlen ⟨rfl,rfl⟩;obtain ⟨n,en,r,rfl,hr1⟩:=cv qx hx;walk_at "w";exact ⟨rfl,by rw[take_snoc en];simp⟩
  ·rintro ys H' hy ⟨rfl,rfl⟩ l hl';walk_at "w";refine ⟨l,ns.map (·.2),M,rfl,bS.of (by rw[aK,aG (by lia)]),hz.1,hz.2.1,λb hb=>?_,?_⟩
   ·obtain ⟨n,hn,rfl⟩:=aH.mp hb;exact ⟨(hz.2.2 n hn).1,(hz.2.2 n hn).2.1⟩
   ·exact q _ (aE.new hl')
theorem xj:bu ["lines","begin","place","at"] ["lines","begin","place"] (ax iQ):=by walk_at "d"
theorem CV (T:Txt K mg Z):cK P w K mg base gi 1 Z.oK Z.ou ["lines","begin","place"] Dx:=by
 refine T.uj.ok xj (λvs H Q E h=>?_) (λcdv A outer s H vs Q E hr h=>?_)
 ·obtain ⟨l,p,ls,b,c,rfl,_⟩:=h;rfl
 ·obtain ⟨l,p,ls,b,c,rfl,G,l1000,b1000,hc,k1,k2⟩:=h
  refine ⟨_,(ar (dR PassesOwn.never rfl (Kd rfl T.range (aa (pv 1) (aa (bD aZ (by rfl) T.len aP (aa (pv 0) ag)) ag))) (aN (i:=3) xj.nd)
    (az (cO (bC vf (bw bV (bw bV (pv 0) (pv 3)) (pv 2)) aj (bK _)) (az (aV (pv 3))) bT)))
   (az (aV zQ))),?_⟩
  refine aS (σ:=[some (.ref p),some (.int b),some (.int c),none]) rfl ?_;obtain ⟨_,xs,gx,qx⟩:=id G;have lx:=qx.length;walk_at "w";refine ⟨_,_,rfl,.inl (bS.of gx),?_⟩;rw[<- lx];walk_at "w";refine ⟨⟨by lia,by lia,by lia,by lia⟩,?_⟩;refine DM (lo:=(b:Int)) (n:=((ls.length:Int) - (b:Int)).toNat) (λi σ' H'=>H'=H/\(∃y,σ'=[some (.ref p),some (.int b),some (.int c),y])/\∀s,b<=s->s < b+i->fv ls s c=0) ⟨rfl,⟨_,rfl⟩,λs h1 h2=>absurd h2 (by lia)⟩ ?_ ?_
  ·rintro i σ' H' hi ⟨rfl,⟨y,rfl⟩,hz⟩;rw[show ((b:Int)+(i:Int))=((b+i:Nat):Int) by lia];obtain ⟨zs,v,ez,ev,mz,q,rfl,_,gq⟩:=jL qx (i:=b+i) (by lia);walk_at "w";refine cJ (bS.of gx) (fF ev) ?_;walk_at "w";refine cJ (bS.of gq) (Bj (hc zs mz)) ?_;walk_at "w";have ef:=K3 (c:=c) ez;by_cases e:zs.getD c 0=0
   ·rw[decide_eq_true e];walk_at "w";refine ⟨rfl,⟨_,rfl⟩,λs h1 h2=>?_⟩;by_cases e2:s=b+i
    ·rw[e2,ef,e];rfl
    ·exact hz s h1 (by lia)
   ·rw[decide_eq_false e];walk_at "w";exact k1 (b+i) (by lia) (by lia) (by rw[ef];exact SM.mpr e)
  ·rintro σ' H' ⟨rfl,⟨y,rfl⟩,hz⟩;walk_at "w";exact k2 λt h1 h2=>hz t h1 (by lia)
theorem sT:bu ["lines","at","place","before","used","by","swept"] ["lines","at","place","before"] (ax ph):=by walk_at "d"
theorem Ie (T:Txt K mg Z):cK P w K mg base gi 1 Z.wY Z.wH ["lines","at","place","before"] Dy:=by
 refine T.Af.ok sT (λvs H Q E h=>?_) (λcdv A outer s H vs Q E hr h=>?_)
 ·obtain ⟨l,p,ls,kk,c,n,b,rfl,_⟩:=h;rfl
 ·obtain ⟨l,p,ls,kk,c,n,b,rfl,hl,G,l1000,hk,hw,n1000,hc,b0,sb,hs,k⟩:=h
  refine ⟨_,(ar (bp (i:=4) sT.nd rfl (Or.inr rfl) (bw bV (pv 0) (pv 1)))
   (ar (bp (i:=5) sT.nd rfl (Or.inr rfl) (bw bV (pv 4) (pv 2)))
   (ar (pY 6 ["line"] ["used","by","place","before"] [4,5,2,3] sT.nd rfl rfl (cR (pv 0)) (λ_=>(aN (i:=0) (show List.Nodup (α:=PySem.Str) ["line","used","by","place","before"] by decide +kernel) rfl (Or.inr rfl) (Or.inl rfl))) (λ_=>cG) (λ_=>(cC ["mine","yours"] ["by","line","place","before"] [2,0,3,4] (LG K rfl T.zip (aa (pv 0) (aa (pv 1) ag))) (λ_=>(we K 2 (cH (aN (i:=0) (show List.Nodup (α:=PySem.Str) ["mine","yours","by","line","place","before"] by decide +kernel)) (cH (aN (i:=1) (show List.Nodup (α:=PySem.Str) ["mine","yours","by","line","place","before"] by decide +kernel)) jc)))) (λ_=>cG) (λ_=>(bL jw (bL lU (bL dq (pv 2) (pv 0)) (bL dq (bw (nG K (by rfl)) (pv 3) (pv 4)) (pv 1))) (pv 5))))))
   (ar (fz (pv 4) (ic (pv 6) (pv 1) set_list))
   (az (aV (pv 6))))))),?_⟩
  refine aS (σ:=[some (.ref p),some (.int kk),some (.int c),some (.int b),none,none,none]) rfl ?_;obtain ⟨pl,xs,gx,qx⟩:=id G;have lx:=qx.length;obtain ⟨zk,vk,ek,evk,mk,qk,rfl,qkl,gk⟩:=jL qx hk;have wk:=hw zk mk;have ek':ls.getD kk []=zk:=by rw[ae,ek];rfl
  walk_at "w";refine cJ (bS.of gx) (fF evk) ?_;walk_at "w";refine cJ (bS.of gk) (Bj (by lia)) ?_;walk_at "w";refine ⟨⟨_,bS.of gx⟩,?_⟩;refine fY (K:=K) (xs:=xs) (λi ys H'=>aE H H'/\Paired (JK l H') ((ls.take i).map λzs=>List.zipWith (λx y=>(zk.getD c 0*x - zs.getD c 0*y).fdiv b) zs zk) ys) (bc (bF (by lia))) ⟨aE.refl _,.nil⟩ (λi ys H' _ ⟨s,_⟩=>bS.of (s _ _ gx)) ?_ ?_
  ·rintro i v ys0 H' hx hlen ⟨s',pr⟩;obtain ⟨zs,ec,q,rfl,ql,gq⟩:=cv qx hx;have mz:=aw ec;have wz:=hw zs mz;have gq':=s' _ _ gq;have gk':=s' _ _ gk;walk_at "w";refine ⟨⟨_,bS.of gq'⟩,⟨_,bS.of gk'⟩,?_⟩;refine vG (K:=K) (xs:=zs.map V.int) (ws:=zk.map V.int) (λj ys H2=>aE H' H2/\ys=((List.zipWith (λx y=>(zk.getD c 0*x - zs.getD c 0*y).fdiv b) zs zk).take j).map V.int) (bc (bF (by rw[ao];lia))) (by rw[ao,ao];lia) ⟨aE.refl _,rfl⟩ (λj ys H2 _ ⟨s2,_⟩=>⟨bS.of (s2 _ _ gq'),bS.of (s2 _ _ gk')⟩) ?_ ?_
   ·rintro j v1 v2 ys H2 r h1 h2 hy ⟨s2,rfl⟩ hr
    obtain ⟨x,ex,rfl⟩:∃x,zs[j]?=some x/\V.int x=v1:=by
     rw[aM] at h1;cases e:zs[j]? with
     | none=>rw[e] at h1;cases h1
     | some x=>rw[e] at h1;exact ⟨x,rfl,ck h1⟩
    obtain ⟨y,ey,rfl⟩:∃y,zk[j]?=some y/\V.int y=v2:=by
     rw[aM] at h2;cases e:zk[j]? with
     | none=>rw[e] at h2;cases h2
     | some x=>rw[e] at h2;exact ⟨x,rfl,ck h2⟩
    have sr:aE H2 (upd H2 r (.tup [.int x,.int y])):=aE.new hr;have gr:(upd H2 r (.tup [.int x,.int y])) r=some (.tup [.int x,.int y]):=aK;generalize upd H2 r (.tup [.int x,.int y])=H3 at sr gr ⊢;have gq3:=sr _ _ (s2 _ _ gq');have sx:=hs zs mz x (aw ex);have sy:=hs zk mk y (aw ey);have s1:=hs zk mk _ (getD_in (e:=0) (show c < zk.length by lia));have s3:=hs zs mz _ (getD_in (e:=0) (show c < zs.length by lia));walk_at "w";refine gL (show js _ _ from .inr ⟨_,_,s1,sx,by decide⟩) ?_;walk_at "w";refine cJ (bS.of gq3) (Bj (by lia)) ?_;walk_at "w";refine gL (show js _ _ from .inr ⟨_,_,s3,sy,by decide⟩) ?_;walk_at "w";refine gL (show sI _ _ from ⟨b0,sb⟩) ?_;have ez:(List.zipWith (λx y=>(zk.getD c 0*x - zs.getD c 0*y).fdiv b) zs zk)[j]?=some ((zk.getD c 0*x - zs.getD c 0*y).fdiv b):=by rw[b9,ex,ey]
    exact ⟨s2.trans sr,by rw[take_snoc ez];simp⟩
   ·rintro ys H2 hy ⟨s2,rfl⟩ r hr;have sn:aE H2 (upd H2 r (.lst (((List.zipWith (λx y=>(zk.getD c 0*x - zs.getD c 0*y).fdiv b) zs zk).take (zs.map V.int).length).map V.int))):=aE.new hr;refine ⟨(s'.trans s2).trans sn,?_⟩;rw[take_snoc ec,cS];refine bW (Paired.imp' (λ_ _ z=>(JK.same z s2).same sn) pr) (.cons ⟨r,rfl,ne_old (λz=>hl (s'.none (s2.none z))) hr,?_⟩ .nil);rw[aK,aG (by rw[cX,ao];lia)]
  ·rintro ys H1 hy ⟨s1,pr⟩ r hr;have sn:aE H1 (upd H1 r (.lst ys)):=aE.new hr;have gn:(upd H1 r (.lst ys)) r=some (.lst ys):=aK;have ly:=pr.length;rw[ao,cT] at ly;generalize upd H1 r (.lst ys)=H2 at sn gn ⊢;walk_at "w";refine fu gn (fE (by lia)) rfl ?_;have s2:aE H1 (upd H2 r (.lst (ys.set kk (.ref qk)))):=sn.after hr;walk_at "w";refine k r _ (s1.none hr) (s1.trans s2) ⟨ne_old (λz=>hl (s1.none z)) hr,_,aK,?_⟩;unfold GU;rw[ek'];rw[aG (by lia)] at pr;exact lQ (Paired.imp' (λ_ _ z=>JK.same z s2) pr) kk ⟨qk,rfl,qkl,(s1.trans s2) _ _ gk⟩
theorem xk:bu ["lines","at","to","swapped"] ["lines","at","to"] (ax iS):=by walk_at "d"
theorem CW (T:Txt K mg Z):cK P w K mg base gi 1 Z.oM Z.ow ["lines","at","to"] Ai:=by
 refine T.uo.ok xk (λvs H Q E h=>?_) (λcdv A outer s H vs Q E hr h=>?_)
 ·obtain ⟨l,p,ls,t,kk,rfl,_⟩:=h;rfl
 ·obtain ⟨l,p,ls,t,kk,rfl,hl,G,l1000,ht,hk,k⟩:=h
  refine ⟨_,(ar (bp (i:=3) xk.nd rfl (Or.inl rfl) (d5 tR (by rfl) T.list PyProof.Rows.boot_list (aa (pv 0) ag)))
   (ar (fz (bw bV (pv 0) (pv 1)) (ic (pv 3) (pv 2) set_list))
   (ar (fz (bw bV (pv 0) (pv 2)) (ic (pv 3) (pv 1) set_list))
   (az (aV (pv 3)))))),?_⟩
  refine aS (σ:=[some (.ref p),some (.int t),some (.int kk),none]) rfl ?_;obtain ⟨pl,xs,gx,qx⟩:=id G;have lx:=qx.length;obtain ⟨zt,vt,et,evt,_,Ft⟩:=jL qx ht;obtain ⟨zk,vk,ek,evk,_,Fk⟩:=jL qx hk;walk_at "w";refine ⟨p,xs,rfl,.inl (bS.of gx),λc hc=>?_⟩;have sc:aE H (upd H c (.lst xs)):=aE.new hc;have gc:(upd H c (.lst xs)) c=some (.lst xs):=aK;generalize upd H c (.lst xs)=Hc at sc gc ⊢;walk_at "w";refine cJ (bS.of (sc _ _ gx)) (fF evt) ?_;walk_at "w";refine fu gc (fE (by lia)) rfl ?_;have s1:aE H (upd Hc c (.lst (xs.set kk vt))):=sc.after hc;have g1:(upd Hc c (.lst (xs.set kk vt))) c=some (.lst (xs.set kk vt)):=aK;generalize upd Hc c (.lst (xs.set kk vt))=H1 at s1 g1 ⊢;walk_at "w";refine cJ (bS.of (s1 _ _ gx)) (fF evk) ?_;walk_at "w";refine fu g1 (fE (by rw[dY];lia)) rfl ?_;have s2:aE H (upd H1 c (.lst ((xs.set kk vt).set t vk))):=s1.after hc;walk_at "w";refine k c _ hc s2 ⟨ne_old hl hc,_,aK,?_⟩;have et':ls.getD t []=zt:=by rw[ae,et];rfl
  have ek':ls.getD kk []=zk:=by rw[ae,ek];rfl
  unfold sN;rw[et',ek'];exact lQ (lQ (Paired.imp' (λ_ _ z=>JK.same z s2) qx) kk (JK.same Ft s2)) t (JK.same Fk s2)
theorem kx:bu ["rows","wide","lines","leads","before","place","many","at"] ["rows","wide"] (ax vZ):=by walk_at "d"
theorem Gn (T:Txt K mg Z):cK P w K mg base gi 4 Z.A7 Z.A4 ["rows","wide"] (Dl K):=by
 refine T.Be.ok kx (λvs H Q E h=>?_) (λcdv A outer s H vs Q E hr h=>?_)
 ·obtain ⟨p,n,w,H0,rows,rfl,_⟩:=h;rfl
 ·obtain ⟨p,n,w,H0,rows,rfl,G,r100,n100,hw,F,k⟩:=h
  refine ⟨_,(ar (pY 2 ["row"] [] [] kx.nd rfl rfl (cR (pv 0)) (λ_=>(aN (i:=0) (show List.Nodup (α:=PySem.Str) ["row"] by decide +kernel))) (λ_=>cG) (λ_=>(cP (yu T) hr T.oh T.nO.kp T.qK (aa (pv 0) (aa (cP (so T) hr T.jd T.gQ.kp T.jE (aa (pv 0) ag)) ag)))))
   (ar (bp (i:=3) kx.nd rfl (Or.inl rfl) (di ag))
   (ar (bp (i:=4) kx.nd rfl (Or.inl rfl) aj)
   (ar (dR PassesOwn.never rfl (cu rfl T.range (aa (pv 1) ag)) (aN (i:=5) kx.nd)
    (ar (bp (i:=6) kx.nd rfl (Or.inl rfl) (bD aZ (by rfl) T.len aP (aa (pv 3) ag)))
   (ar (bp (i:=7) kx.nd rfl (Or.inl rfl) (cP (CV T) hr T.xt T.uj.kp T.yU (aa (pv 2) (aa (pv 6) (aa (pv 5) ag)))))
   (az (cO (bC Jh (pv 7) zQ (bK _)) (ar (bp (i:=2) kx.nd rfl (Or.inl rfl) (cP (Ie T) hr T.Cd T.Af.kp T.D5 (aa (cP (CW T) hr T.xu T.uo.kp T.yV (aa (pv 2) (aa (pv 7) (aa (pv 6) ag)))) (aa (pv 6) (aa (pv 5) (aa (pv 4) ag))))))
   (ar (bp (i:=4) kx.nd rfl (Or.inl rfl) (bw bV (bw bV (pv 2) (pv 6)) (pv 5)))
   (az (ij (yt dc dm dk kd (pv 3) (aa (pv 5) ag)))))) bT)))))
   (az (aV (cL (aa (BN El (pv 2) Jf (AY (bD aZ (by rfl) T.len aP (aa (pv 3) ag)))) (aa (pv 3) ag))))))))),?_⟩
  refine aS (σ:=[some (.ref p),some (.int n),none,none,none,none,none,none]) rfl ?_;obtain ⟨xs,gx,qx,_⟩:=id G;obtain ⟨W,hW,W2,ent⟩:=F.ent;obtain ⟨_,_,_,_,_,_,_,_,r15,r89⟩:=id F;walk_at "w";refine ⟨⟨_,bS.of gx⟩,?_⟩;refine ff (K:=K) (as:=rows) (F:=dF K H0) (λ(H:Hp) (zs:List Int) (v:V)=>∃q,v=V.ref q/\H q=some (.lst (zs.map V.int))) nD gx qx (by lia) (λa b=>a.same b) (λ⟨q,a,b⟩ s=>⟨q,a,s _ _ b⟩) ?_ ?_
  ·rintro i qs v H' NY NN ec s' ⟨u,rfl,_,R⟩ k1;have mx:=aw ec;obtain ⟨M,hM⟩:=F.rowM mx;obtain ⟨b1,sb⟩:=hM.bot;have lq:(qs.map nm).length<=1000:=by rw[ao,hw qs mx];lia
   walk_at "w";refine ⟨u,_,M,rfl,R.rowK,lq,hM,λH2 s2=>?_⟩;walk_at "w";exact ⟨u,_,M,_,rfl,(R.same s2).rowK,lq,hM,b1,sb,λr H3 n3 s3 g3=>k1 _ _ (s2.trans s3) ⟨r,rfl,g3⟩⟩
  rintro ys H1 lp0 hlp s1 g1 pr1 nx1;walk_at "w";refine cQ λqp H2 s2 nq gq=>?_
  have G2:vO qp H2 lp0 (rows.map nD):=⟨(λz=>by rw[z,nq] at g1;cases g1),ys,s2 _ _ g1,Paired.imp' (λ_ _ ⟨q,a,b⟩=>⟨q,a,(λz=>by rw[z,nq] at b;cases b),s2 _ _ b⟩) pr1⟩;have hq0:H qp=none:=s1.none nq;have s02:=s1.trans s2;have hm:(rows.map nD).length=rows.length:=ao ..;clear g1 pr1 nx1;walk_at "w";refine ⟨by lia,by lia,?_⟩;refine eN (n:=n) (λP σ' H'=>aE H H'/\∃lp ls ps d y1 y2 y3,σ'=[some (.ref p),some (.int n),some (.ref lp),some (.ref qp),some (.int d),y1,y2,y3]/\H' qp=some (.lst (nF ps))/\vO qp H' lp ls/\D6 (rows.map nD) n P ls ps d) ⟨s02,lp0,rows.map nD,[],1,_,_,_,rfl,gq,G2,D6.start λzs hz=>by obtain ⟨x,hx,rfl⟩:=aH.mp hz;rw[yh];exact hw x hx⟩ ?_ ?_
  ·rintro P σ' H' hP ⟨s',lp,ls,ps,d,y1,y2,y3,rfl,gq',G',I⟩;have hl:=I.len;have kP:=I.el.kP;have km:=I.el.km;have lps:(nF ps).length=ps.length:=ao ..;have hqp:H' qp≠none:=by rw[gq'];exact λz=>nomatch z
   obtain ⟨z1,z2⟩:=I.sz (r:=min rows.length n) hW ent (by lia) (by rw[hm];exact ak _) r15;have big:(16*W)^min rows.length n < 2^8999:=bJ (HS W2) (d7 (by decide) (by lia));walk_at "w";refine ⟨_,_,rfl,.inl (bS.of gq'),?_⟩;rw[lps];walk_at "w";refine ⟨qp,lp,ls,ps.length,P,rfl,G',by lia,by lia,λzs hz=>by rw[I.wide zs hz];exact hP,λt h1 h2 h3=>?_,λhz=>?_⟩
   ·walk_at "w";refine ⟨rfl,_,rfl,?_⟩;rw[show decide (V.int (t:Int)=V.non)=false from decide_eq_false (λz=>nomatch z)];walk_at "w";refine ⟨qp,lp,ls,t,ps.length,rfl,hqp,G',by lia,h2,by lia,λl1 Ha na sa Ga=>?_⟩;walk_at "w";refine ⟨qp,l1,_,ps.length,P,n,d,rfl,λz=>hqp (sa.none z),Ga,by rw[zC];lia,by rw[zC];lia,IT I.wide (by lia) h2,by lia,hP,I.d0,bJ z1 big,λzs hz z hz'=>?_,λl2 Hb nb sb Gb=>?_⟩
    ·unfold sN at hz;have key:∀ys,ys∈ls->∀z∈ys,Sz 8999 z:=λys hy z hz=>bJ (z2 ys hy z hz) big
     rcases cm hz with h | h
     ·rcases cm h with h | h
      ·exact key zs h z hz'
      ·rw[h] at hz';exact key _ (getD_in h2) z hz'
     ·rw[h] at hz';exact key _ (getD_in (by lia)) z hz'
    have sab:=sa.trans sb;have I2:=I.step hW ent h1 h2 h3;have hk2:ps.length < (GU (sN ls ps.length t) ps.length P d).length:=by rw[MG,zC];lia
    obtain ⟨n2,xs2,gx2,qx2⟩:=id Gb;obtain ⟨zk,vk,ek,evk,mk,qk,rfl,_,gk⟩:=jL qx2 hk2;have wk:=I2.wide zk mk;walk_at "w";refine cJ (bS.of gx2) (fF evk) ?_;walk_at "w";refine cJ (bS.of gk) (Bj (by lia)) ?_;have gqb:=sab _ _ gq';walk_at "w";refine ⟨.inl ⟨rfl,_,bS.of gqb⟩,?_⟩;walk_at "w";refine ja gqb (bF (by lia)) ?_;refine ⟨(s'.trans sab).after hq0,l2,_,ps++[P],_,_,_,_,rfl,?_,Gb.upd,?_⟩
    ·rw[aK];unfold nF;rw[cS];rfl
    ·have e:(GU (sN ls ps.length t) ps.length P d).getD ps.length []=zk:=by rw[ae,ek];rfl
     rw[e] at I2;exact I2
   ·walk_at "w";refine ⟨rfl,_,rfl,?_⟩;rw[show decide (V.non=V.non)=true from decide_eq_true rfl];walk_at "w";exact ⟨s',lp,ls,ps,d,_,_,_,rfl,gq',G',I.skip hz⟩
  rintro σ' H' ⟨s',lp,ls,ps,d,y1,y2,y3,rfl,gq',G',I⟩;obtain ⟨R,hR⟩:=I.done hw F;have lps:(nF ps).length=ps.length:=ao ..;obtain ⟨nl,xs',gx',qx'⟩:=id G';walk_at "w";refine ⟨_,_,rfl,.inl (bS.of gq'),?_⟩;rw[lps];walk_at "w";refine PB (bS.of gx') λsl H3 s3 n3 g3=>?_
  rw[MD] at g3;walk_at "w";refine bZ λt H4 s4 g4=>?_
  have s34:=s3.trans s4;exact k t sl qp R ps d _ H4 g4 (s34 _ _ gq') ⟨(λz=>by rw[z,gq'] at n3;cases n3),_,s4 _ _ g3,Paired.imp' (λ_ _ z=>JK.same z s34) (vb qx' ps.length)⟩ (s'.trans s34) hR
theorem zI:bu ["top","bottom","divisor"] ["top","bottom"] (ax rY):=by walk_at "d"
theorem wg (T:Txt K mg Z):cK P w K mg base gi 2 Z.zg Z.yP ["top","bottom"] JW:=by
 refine T.sG.ok zI (λvs H Q E h=>?_) (λcdv A outer s H vs Q E hr h=>?_)
 ·obtain ⟨t,b,rfl,_⟩:=h;rfl
 ·obtain ⟨t,b,rfl,hb,hs,k⟩:=h
  refine ⟨_,(ar (bp (i:=2) zI.nd rfl (Or.inl rfl) (cP (kH T) hr T.ik T.gh.kp T.ji (aa (pv 0) (aa (pv 1) ag))))
   (ar (cO (bC xm (pv 1) aj (bK _)) (az (bp (i:=2) zI.nd rfl (Or.inl rfl) (Aj uQ (pv 2)))) bT)
   (az (aV (cL (aa (bL jw (pv 0) (pv 2)) (aa (bL jw (pv 1) (pv 2)) ag))))))),?_⟩
  refine aS (σ:=[some (.int t),some (.int b),none]) rfl ?_;walk_at "w";refine ⟨t,b,rfl,?_⟩;have hg:=Co (t:=t) hb
  have hgs:Sz 8999 (g t b):=hs.le (by
   have h1:(g t b).natAbs=Int.gcd t b:=by unfold g;simp
   rw[h1];exact ko (by lia) (by have:=fH (a:=t) (b:=b);exact gO.mpr this |> λz=>by simpa using z))
  have hgn:g (-t) (-b)=g t b:=by unfold g;rw[Int.gcd_neg,Int.neg_gcd]
  walk_at "w";refine iB (λh=>?_) (λh=>?_)
  ·have hb0:b < 0:=of_decide_eq_true h;walk_at "w";refine gL (show sI _ _ from ⟨by lia,hgs.neg⟩) ?_;walk_at "w";refine gL (show sI _ _ from ⟨by lia,hgs.neg⟩) ?_;walk_at "w";refine bZ λr H' s' h'=>?_
   have e1:t.fdiv (-g t b)=lo (-t) (-b):=by
    unfold Nm.lo;rw[hgn,<- cB _ (by lia),<- Int.neg_fdiv_neg (-t),Int.neg_neg]
   have e2:b.fdiv (-g t b)=hi (-t) (-b):=by
    unfold Nm.hi;rw[hgn,<- cB _ (by lia),<- Int.neg_fdiv_neg (-b),Int.neg_neg]
   exact k r H' s' (by rw[if_pos hb0,if_pos hb0,<- e1,<- e2];exact h')
  ·have hb0:¬b < 0:=λz=>h (decide_eq_true z)
   walk_at "w";refine gL (show sI _ _ from ⟨by lia,hgs⟩) ?_;walk_at "w";refine gL (show sI _ _ from ⟨by lia,hgs⟩) ?_;walk_at "w";refine bZ λr H' s' h'=>?_
   rw[cB _ (by lia),cB _ (by lia)] at h';exact k r H' s' (by rw[if_neg hb0,if_neg hb0];exact h')
theorem BC:bu ["rows","wide","found"] ["rows","wide"] (ax o8):=by walk_at "d"
theorem Ia (T:Txt K mg Z):cK P w K mg base gi 5 Z.wV Z.wD ["rows","wide"] (Ah K):=by
 refine T.Ac.ok BC (λvs H Q E h=>?_) (λcdv A outer s H vs Q E hr h=>?_)
 ·obtain ⟨p,n,w,H0,rows,rfl,_⟩:=h;rfl
 ·obtain ⟨p,n,w,H0,rows,rfl,G,r100,n100,hw,F,k⟩:=h
  refine ⟨_,(ar (bp (i:=2) BC.nd rfl (Or.inl rfl) (cP (Gn T) hr T.BZ T.Be.kp T.Fc (aa (pv 0) (aa (pv 1) ag))))
   (az (aV (cC ["line","lead"] [] [] (wd rfl T.zip (aa (bw bY (pv 2) aj) (aa (bw bY (pv 2) aj) ag))) (λ_=>(we K 2 (cH (aN (i:=0) (show List.Nodup (α:=PySem.Str) ["line","lead"] by decide +kernel) rfl (Or.inr rfl) (Or.inl rfl)) (cH (aN (i:=1) (show List.Nodup (α:=PySem.Str) ["line","lead"] by decide +kernel) rfl (Or.inr rfl) (Or.inl rfl)) jc)))) (λ_=>cG) (λ_=>(cC ["top"] ["line","lead"] [0,1] (Gk K (pv 0)) (λ_=>(aN (i:=0) (show List.Nodup (α:=PySem.Str) ["top","line","lead"] by decide +kernel))) (λ_=>cG) (λ_=>(cP (wg T) hr T.sv T.sG.kp T.vJ (aa (pv 0) (aa (bw (nG K (by rfl)) (pv 1) (pv 2)) ag)))))))))),?_⟩
  refine aS (σ:=[some (.ref p),some (.int n),none]) rfl ?_;obtain ⟨_,_,_,_,_,_,_,_,r15,r89⟩:=id F;walk_at "w";refine ⟨p,n,w,H0,rows,rfl,G,r100,n100,hw,F,λt lp qp R ps d ls H1 gt gq G1 s1 S=>?_⟩;obtain ⟨lR,wR,RR⟩:=id S.rr;have hl:=S.len;obtain ⟨_,xs,gx,qx⟩:=id G1;have lx:=qx.length;have lps:(nF ps).length=ps.length:=ao ..;have d0:(d:Rat)≠0:=λz=>S.d0 (vH z)
  have dsz:Sz 8999 d:=bJ S.dsz (d7 (by decide) (by lia))
  have km:ps.length<=n:=by
   rcases cN n ps.length with z | z
   ·have inc:∀j,j < ps.length->j<=ps.getD j 0:=by
     intro j
     induction j with
     | zero=>intro _;exact bx _
     | succ j ih =>
      intro hj;have:=ih (by lia);have:=RR.inc j (j+1) (by lia) hj
      lia
    have h1:=inc (ps.length - 1) (by lia);have h2:=RR.low (ps.length - 1) (by lia)
    lia
   ·exact z
  walk_at "w";refine ⟨⟨_,bS.of gx⟩,⟨_,bS.of gq⟩,?_⟩;refine vG (K:=K) (xs:=xs) (ws:=nF ps) (λi ys H'=>aE H1 H'/\Paired (dF K H1 H') (R.take i) ys) (bc (bF (by lia))) (by lia) ⟨aE.refl _,.nil⟩ (λi ys H' _ ⟨s,_⟩=>⟨bS.of (s _ _ gx),bS.of (s _ _ gq)⟩) ?_ ?_
  ·rintro i v1 v2 ys H' r h1 h2 hy ⟨s,pr⟩ hr;obtain ⟨zs,ez,q,rfl,_,gq1⟩:=cv qx h1;have hi:i < ls.length:=(aB.mp ez).1;have mz:=aw ez;have wz:=S.wide zs mz
   obtain ⟨j,ej,rfl⟩:∃j:Nat,ps[i]?=some j/\V.int (j:Int)=v2:=by
    unfold nF at h2;rw[aM] at h2;cases e:ps[i]? with
    | none=>rw[e] at h2;cases h2
    | some x=>rw[e] at h2;exact ⟨x,rfl,ck h2⟩
   have ej':ps.getD i 0=j:=by rw[ae,ej];rfl
   have jn:j < n:=by have:=RR.low i (by lia);rw[ej'] at this;exact this
   have sr:aE H' (upd H' r (.tup [.ref q,.int j])):=aE.new hr;have gr:(upd H' r (.tup [.ref q,.int j])) r=some (.tup [.ref q,.int j]):=aK;generalize upd H' r (.tup [.ref q,.int j])=H2 at sr gr ⊢;have s2:=s.trans sr;have iR:i < R.length:=by lia
   have eR:=af iR;have wRi:=wR _ (aT iR)
   have ed:zs.getD j 0=d:=by
    have h:=S.val i j;rw[K3 ez] at h;have u:=RR.unit i (by lia) i (by lia);rw[if_pos rfl,ej'] at u;rw[u,MR] at h;exact dX.mp h
   have val:∀c,((zs.getD c 0:Int):Rat)=(d:Rat)*(R[i]).getD c 0:=λc=>by
    have h:=S.val i c;rw[K3 ez] at h;rw[h];unfold cZ;rw[ae (l:=R),eR];rfl
   walk_at "w";refine ⟨⟨_,bS.of (s2 _ _ gq1)⟩,?_⟩;refine fY (K:=K) (xs:=zs.map V.int) (λc ys' H3=>aE H2 H3/\Paired (cx K H3) ((R[i]).take c) ys') (bc (bF (by rw[ao];lia))) ⟨aE.refl _,.nil⟩ (λc ys' H3 _ ⟨s3,_⟩=>bS.of ((s2.trans s3) _ _ gq1)) ?_ ?_
   ·rintro c x ys' H3 hx hlen ⟨s3,pr3⟩
    obtain ⟨z,ec,rfl⟩:∃z,zs[c]?=some z/\V.int z=x:=by
     rw[aM] at hx;cases e:zs[c]? with
     | none=>rw[e] at hx;cases hx
     | some x=>rw[e] at hx;exact ⟨x,rfl,ck hx⟩
    have hc:c < zs.length:=(aB.mp ec).1;have vc:=val c;have e1:zs.getD c 0=z:=by rw[ae,ec];rfl
    rw[e1] at vc;walk_at "w";refine cJ (bS.of ((s2.trans s3) _ _ gq1)) (Bj (by lia)) ?_;rw[ed];walk_at "w";refine ⟨z,d,rfl,S.d0,dsz,λr4 H4 s4 g4=>?_⟩;have ec':(R[i])[c]?=some ((R[i]).getD c 0):=by rw[ae,af (show c < (R[i]).length by lia)];rfl
    refine ⟨s3.trans s4,?_⟩;rw[take_snoc ec'];refine bW (Paired.imp' (λ_ _ z=>cx.same z s4) pr3) (.cons (cx.mk g4 ?_) .nil);rcases Int.lt_or_lt_of_ne S.d0 with hd | hd
    ·rw[if_pos hd,if_pos hd];refine tx (by lia) ?_;rw[dS,dS,vc];grind
    ·rw[if_neg (by lia),if_neg (by lia)];refine tx hd ?_;rw[vc];grind
   ·rintro ys' H3 hy' ⟨s3,pr3⟩ l4 hl4;have sn:aE H3 (upd H3 l4 (.lst ys')):=aE.new hl4;refine ⟨(s2.trans s3).trans sn,?_⟩;rw[take_snoc eR];rw[aG (by rw[ao];lia)] at pr3;exact bW (Paired.imp' (λ_ _ z=>dF.same z ((sr.trans s3).trans sn)) pr) (.cons ⟨l4,rfl,(s2.trans s3).none hl4,ys',aK,Paired.imp' (λ_ _ z=>cx.same z sn) pr3⟩ .nil)
  ·rintro ys H' hy ⟨s,pr⟩ r hr;have sn:aE H' (upd H' r (.lst ys)):=aE.new hr;rw[aG (by lia)] at pr;refine k r R ps d.natAbs _ (s1.none (s.none hr)) ((s1.trans s).trans sn) ⟨ys,aK,Paired.imp' (λ_ _ z=>(dF.weak z s1).same sn) pr,nZ (H0:=H1) (rows:=R) ⟨H',hr,pr⟩⟩ S.rr S.km ?_ S.dsz S.tp;have:=S.d0
   lia
theorem sS:bu ["one","other","one_bottom","other_bottom","pairs"] ["one","other"] (ax o7):=by walk_at "d"
theorem BR (T : Txt K mg Z) : cK P w K mg base gi 4 Z.wU Z.wC ["one", "other"] (Ej K) := by
  have uI := so (P := P) (w := w) (base := base) T;have AB := yu (P := P) (w := w) (base := base) T;have MP := wg (P := P) (w := w) (base := base) T;refine T.xa.ok sS (λvs H Q E h => ?_) (λcdv A outer s H vs Q E hr h => ?_)
  · obtain ⟨p, q, xs, ys, rfl, _⟩ := h;rfl
  · obtain ⟨p, q, xs, ys, rfl, hp, hq, hl, hz, ⟨k1, j1, k2, j2, h1, h2, hkj⟩, kk⟩ := h
    refine ⟨_, (ar (bp (i := 2) sS.nd rfl (Or.inl rfl) (cP uI hr T.jd T.gQ.kp T.jE (aa (pv 0) ag)))
      (ar (bp (i := 3) sS.nd rfl (Or.inl rfl) (cP uI hr T.jd T.gQ.kp T.jE (aa (pv 1) ag)))
      (ar (bp (i := 4) sS.nd rfl (Or.inl rfl) (HV rfl T.list rfl T.zip (aa (cP AB hr T.oh T.nO.kp T.qK (aa (pv 0) (aa (pv 2) ag))) (aa (cP AB hr T.oh T.nO.kp T.qK (aa (pv 1) (aa (pv 3) ag))) ag))))
      (az (aV (cP MP hr T.sv T.sG.kp T.vJ (aa (bD (MH rfl) (by rfl) T.sum PyProof.Rows.boot_sum (aa (cC ["mine", "yours"] [] [] (cR (pv 4)) (λ_ => (we K 2 (cH (aN (i := 0) (show List.Nodup (α := PySem.Str) ["mine", "yours"] by decide +kernel)) (cH (aN (i := 1) (show List.Nodup (α := PySem.Str) ["mine", "yours"] by decide +kernel)) jc)))) (λ_ => cG) (λ_ => (bL dq (pv 0) (pv 1)))) ag)) (aa (bL dq (pv 2) (pv 3)) ag)))))))), ?_⟩
    refine aS (σ := [some (.ref p), some (.ref q), none, none, none]) rfl ?_;obtain ⟨M, h1⟩ := h1.rowM (by lia);obtain ⟨N, h2⟩ := h2.rowM (by lia);replace hp := hp.rowK;replace hq := hq.rowK;replace hl : (ys.map nm).length = (xs.map nm).length := by simpa using hl
    replace hz : (xs.map nm).length ≤ 1000 := by simpa using hz
    obtain ⟨b1, s1⟩ := h1.bot;obtain ⟨b2, s2⟩ := h2.bot;have k2 : ∀ r H', aE H H' → H' r = some (.tup [.int (lo (My (xs.map nm) (ys.map nm)) (iJ (xs.map nm) * iJ (ys.map nm))), .int (hi (My (xs.map nm) (ys.map nm)) (iJ (xs.map nm) * iJ (ys.map nm)))]) → Q (.ref r) H' := λr H' s g => kk r H' s (cx.mk g (Ot b1 b2))
    clear kk;generalize xs.map nm = ns at hp hq hl hz h1 h2 b1 b2 s1 s2 k2;generalize ys.map nm = ms at hp hq hl hz h1 h2 b1 b2 s1 s2 k2;have hb : 0 < iJ ns * iJ ms := pS b1 b2;walk_at "w";refine ⟨p, ns, M, rfl, hp, hz, h1, λH1 t1 => ?_⟩;walk_at "w";refine ⟨q, ms, N, rfl, hq.same t1, by lia, h2, λH2 t2 => ?_⟩;have u2 := t1.trans t2;walk_at "w";refine ⟨p, ns, M, _, rfl, hp.same u2, hz, h1, b1, s1, λr1 H3 n3 t3 g3 => ?_⟩;walk_at "w";refine ⟨q, ms, N, _, rfl, (hq.same u2).same t3, by lia, h2, b2, s2, λr2 H4 n4 t4 g4 => ?_⟩;walk_at "w";refine ⟨r1, r2, _, _, rfl, bS.of (t4 _ _ g3), bS.of g4, by simp [fN, hl], λL ts H5 t5 n5 g5 pr => ?_⟩;have lt := pr.length;have ll : (fN ns (iJ ns)).length = ns.length := by simp [fN]
    have lm : (fN ms (iJ ms)).length = ns.length := by simp [fN, hl]
    rw [CI, ao, ao, ll, lm] at lt;walk_at "w";refine ⟨⟨_, bS.of g5⟩, ?_⟩;refine fY (K := K) (xs := ts) (λi ys H' => H' = H5 /\ ys = ((List.zipWith (· * ·) (fN ns (iJ ns)) (fN ms (iJ ms))).take i).map V.int) (bc (bF (by lia))) ⟨rfl, rfl⟩ (λi ys H' _ ⟨e, _⟩ => by subst e; exact bS.of g5) ?_ ?_
    · rintro i x ys H' hx hlen ⟨rfl, rfl⟩;obtain ⟨pq, epq, T, rfl, gT⟩ := cv pr hx;obtain ⟨t, u, et, eu, rfl⟩ := Nc epq;walk_at "w";refine gL (show js _ _ from .inr ⟨_, _, Fy h1 b1 s1 (aw et), Fy h2 b2 s2 (aw eu), by decide⟩) ?_;have ez : (List.zipWith (· * ·) (fN ns (iJ ns)) (fN ms (iJ ms)))[i]? = some (t * u) := by rw [b9, et, eu]
      exact ⟨rfl, by rw [take_snoc ez]; simp⟩
    · rintro ys H' hy ⟨rfl, rfl⟩ l hl';walk_at "w";refine ⟨l, List.zipWith (· * ·) (fN ns (iJ ns)) (fN ms (iJ ms)), rfl, bS.of (by rw [aK, aG (by rw [cX]; lia)]), ?_⟩;walk_at "w";refine gL (show js _ _ from .inr ⟨_, _, s1, s2, by decide⟩) ?_;walk_at "w";refine ⟨_, _, rfl, by lia, (s1.mul s2).mono (by decide), λr H6 t6 g6 => ?_⟩;rw [if_neg (by lia), if_neg (by lia)] at g6;exact k2 r H6 ((((u2.trans t3).trans t4).trans t5).trans ((aE.new hl').trans t6)) g6
theorem HK:bu ["grid","row"] ["grid","row"] (ax pe):=by walk_at "d"
theorem Ic (T:Txt K mg Z):cK P w K mg base gi 5 Z.wX Z.wG ["grid","row"] (Ei K):=by
 refine T.Ae.ok HK (λvs H Q E h=>?_) (λcdv A outer s H vs Q E hr h=>?_)
 ·obtain ⟨p,q,H0,rows,ys,rfl,_⟩:=h;rfl
 ·obtain ⟨p,q,H0,rows,ys,rfl,hp,hq,hz,hl,hr1,kk⟩:=h;refine ⟨_,(az (aV (cC ["line"] ["row"] [1] (cR (pv 0)) (λ_=>(aN (i:=0) (show List.Nodup (α:=PySem.Str) ["line","row"] by decide +kernel))) (λ_=>cG) (λ_=>(cP (BR T) hr T.xZ T.xa.kp T.z5 (aa (pv 0) (aa (pv 1) ag))))))),?_⟩;refine aS (σ:=[some (.ref p),some (.ref q)]) rfl ?_;obtain ⟨xs,gx,qx,_⟩:=id hp;walk_at "w";refine ⟨⟨_,bS.of gx⟩,?_⟩;refine ff (K:=K) (F:=dF K H0) (cx K) (λxs=>eC xs ys) gx qx hz (λa b=>a.same b) (λa b=>a.same b) ?_ ?_
  ·rintro i ns x H' NY NN en s ⟨u,rfl,_,hu⟩ k;obtain ⟨e1,e2⟩:=hr1 ns (aw en);walk_at "w";exact ⟨u,q,ns,ys,rfl,hu,hq.same s,e1.symm,by lia,e2,λr H2 s2 h2'=>k _ _ s2 h2'⟩
  ·rintro ys' H' r hr s g pr nx;exact kk r H' hr s ⟨ys',g,pr⟩
theorem CO:bu ["system","rows"] ["system","rows"] (ax iP):=by walk_at "d"
theorem xp (T:Txt K mg Z):cK P w K mg base gi 6 Z.oJ Z.oq ["system","rows"] (Ds K Z.a_System):=by
 refine T.oW.ok CO (λvs H Q E h=>?_) (λcdv A outer s H vs Q E hr h=>?_)
 ·obtain ⟨x,p,H0,H1,mv,pt,lk,R,rfl,_⟩:=h;rfl
 ·obtain ⟨x,p,H0,H1,mv,pt,lk,R,rfl,S,D,G,l100,wR,hf,k⟩:=h;refine ⟨_,(az (aV (cC ["row"] ["system"] [0] (cR (pv 1)) (λ_=>(aN (i:=0) (show List.Nodup (α:=PySem.Str) ["row","system"] by decide +kernel))) (λ_=>cG) (λ_=>(cP (Ic T) hr T.Cc T.Ae.kp T.D4 (aa (Jg K (pv 1) rfl) (aa (pv 0) ag))))))),?_⟩;refine aS (σ:=[some (.ref x),some (.ref p)]) rfl ?_;obtain ⟨dx,a',b',c',gx,_,_,_,Ga,Gb,Gc⟩:=id S;have d8:=D.n8;obtain ⟨xs,gxs,qx,_⟩:=id G;walk_at "w";refine ⟨⟨_,bS.of gxs⟩,?_⟩;refine ff (K:=K) (F:=dF K H1) (dF K H) (uO mv) gxs qx (by lia) (λa b=>a.same b) (λa b=>a.same b) ?_ ?_
  ·rintro i ns v H' NY NN en s ⟨u,rfl,_,hu⟩ k1;have mn:=aw en;walk_at "w";refine ⟨x,Z.a_System,dx,_,_,rfl,s _ _ gx,T.cl_System,T.na_move,FD,?_⟩;walk_at "w";exact ⟨a',u,H0,mv,ns,rfl,Ga.same s,hu,by lia,by rw[wR ns mn];lia,λxs hx=>⟨by rw[D.mw xs hx,wR ns mn],hf xs hx ns mn⟩,λr H2 nr s2 R2=>k1 _ _ s2 ⟨r,rfl,s.none nr,R2⟩⟩
  ·rintro ys H' r hr s g pr nx;exact k r H' hr s ⟨ys,g,pr,nZ nx⟩
theorem pE:bu ["system","steps","lists","rows"] ["system","steps"] (ax gW):=by walk_at "d"
theorem BS (T:Txt K mg Z):cK P w K mg base gi 7 Z.mS Z.mE ["system","steps"] (Dw K Z.a_System):=by
 refine T.rQ.ok pE (λvs H Q E h=>?_) (λcdv A outer s H vs Q E hr h=>?_)
 ·obtain ⟨x,a,c,st,H0,mv,pt,lk,rfl,_⟩:=h;rfl
 ·obtain ⟨x,a,c,st,H0,mv,pt,lk,rfl,s1000,S,D,F,k⟩:=h
  refine ⟨_,(ar (bp (i:=2) pE.nd rfl (Or.inl rfl) (di (aa (di ag) ag)))
   (ar (BK PassesOwn.never (bC LK (bD aZ (by rfl) T.len aP (aa (pv 2) ag)) (pv 1) (bK _))
    (ar (bp (i:=3) pE.nd rfl (Or.inl rfl) (cP (Ia T) hr T.Ca T.Ac.kp T.DZ (aa (bL kG (kF (pv 0) rfl) (cP (xp T) hr T.rH T.oW.kp T.tS (aa (pv 0) (aa (bw bV (pv 2) (Aj uQ aj)) ag)))) (aa (kF (pv 0) rfl) ag))))
   (ar (cO (bC fq (bD aZ (by rfl) T.len aP (aa (pv 3) ag)) (bD aZ (by rfl) T.len aP (aa (bw bV (pv 2) (Aj uQ aj)) ag)) (bK _)) (az (aV (pv 2))) bT)
   (az (ij (yt dc dm dk kd (pv 2) (aa (pv 3) ag)))))))
   (az (aV (pv 2))))),?_⟩
  refine aS (σ:=[some (.ref x),some (.int st),none,none]) rfl ?_;obtain ⟨dx,a',b',c',gx,_,_,_,Ga,Gb,Gc⟩:=id S;have d8:=D.n8;have i4:=D.i4;have lP:=iI (mv:=mv) (pt:=pt) rfl D.pw;walk_at "w";refine cQ λq0 H1 s1 nq0 g1=>?_
  walk_at "w";refine cQ λl H2 s2 nl g2=>?_
  have s02:=s1.trans s2;have nl0:H l=none:=s1.none nl;obtain ⟨Hz,eHz⟩:∃Hz,Hz=upd H l (.lst []):=⟨_,rfl⟩;have zl:Hz l≠none:=by rw[eHz,aK];exact λz=>nomatch z
  have zn:∀q,Hz q=none->H q=none/\q≠l:=λq h=>by
   have ne:q≠l:=λz=>zl (by rw[<- z];exact h)
   rw[eHz,bH ne] at h;exact ⟨h,ne⟩
  have nz:∀q,H q=none->q≠l->Hz q=none:=λq h ne=>by rw[eHz,bH ne];exact h
  clear eHz;have q0l:q0≠l:=λz=>by rw[z,nl] at g1;cases g1
  have G0:bP K Hz H2 q0 []:=⟨[],s2 _ _ g1,.nil,λz=>nomatch z⟩;walk_at "w";refine Eb (λσ' H'=>aE H H'/\∃Rs R us y,σ'=[some (.ref x),some (.int st),some (.ref l),y]/\H' l=some (.lst us)/\Paired (λR v=>∃q,v=V.ref q/\Hz q=none/\bP K Hz H' q R) (Rs++[R]) us/\vN mv pt (Rs++[R])/\Rs.length<=st) (λ_ H'=>match H' l with | some (.lst us)=>st+1 - us.length | _=>0) ⟨s02,[],[],_,_,rfl,g2,.cons ⟨q0,rfl,nz q0 nq0 q0l,G0⟩ .nil,⟨by simp,λt R e=>?_,λt R R' e e'=>?_⟩,bx _⟩ ?_
  ·have ht:=(aB.mp e).1;have:t=0:=by simpa using ht
   subst this;cases e;exact ⟨[],Pu⟩
  ·have ht:=(aB.mp e').1;simp at ht
  rintro σ' Ha ⟨sa,Rs,R,us,y,rfl,gu,pa,Gw,hst⟩;have lu:=pa.length;rw[av,bB] at lu;have eR:(Rs++[R])[Rs.length]?=some R:=by rw[ba (ak _),fP];rfl
  obtain ⟨ps,RR⟩:=Gw.rr _ _ eR;have tn:Rs.length<=mv.length:=by have:=Gw.len _ _ eR;have:=RR.le;have:=RR.1;lia
  have fin:∀(Hx:Hp) (sx:aE Ha Hx) (hh:∀s,(Rs.length=st/\s=st\/Rs.length < st/\Rs.length<=s)->∃ps,cD (kry mv pt s) mv.length R ps),Q (.ref l) Hx:=λHx sx hh=>by
   refine k l (Rs++[R]) Hx nl0 (sa.trans sx) ⟨us,sx _ _ gu,Paired.imp' (λ_ _ ⟨q,e1,e2,e3⟩=>⟨q,e1,(zn q e2).1,(zn q e2).2,bP.weakN (bP.same e3 sx) λq h=>(zn q h).1⟩) pa⟩ Gw (by rw[av,bB];lia) λR2 e2 s hs=>?_
   rw[List.getLast?_concat] at e2;cases e2;rw[av,bB,Nat.add_sub_cancel] at hs;exact hh s hs
  walk_at "w";refine ⟨_,_,rfl,.inl (bS.of gu),?_⟩;walk_at "w";refine iB (λh0=>?_) (λh0=>?_)
  ·have h0:=of_decide_eq_true h0;refine OQ ?_
   obtain ⟨zs,gS⟩:∃zs q,us=zs++[V.ref q]/\Hz q=none/\bP K Hz Ha q R:=by
    obtain ⟨v,ev,q,rfl,e2,e3⟩:∃v,us[Rs.length]?=some v/\∃q,v=V.ref q/\Hz q=none/\bP K Hz Ha q R:=by
     have ev:=af (show Rs.length < us.length by lia);obtain ⟨R2,e2,w⟩:=cv pa ev;rw[eR] at e2;cases e2;exact ⟨_,ev,w⟩
    refine ⟨us.take Rs.length,q,?_,e2,e3⟩;rw[<- take_snoc ev,aG (by lia)]
   obtain ⟨q,rfl,zq,Gq⟩:=gS;have gxa:=sa _ _ gx;walk_at "w";refine ⟨x,Z.a_System,dx,_,_,rfl,gxa,T.cl_System,T.na_put,Eg,?_⟩;walk_at "w";refine cJ (bS.of gu) (zb _ _) ?_;have wR:=RR.2.1;have lR:=RR.1;have pn:=RR.le;walk_at "w";refine ⟨x,q,H0,Hz,mv,pt,lk,R,rfl,S.same sa,D,Gq,by lia,wR,F.fit d8 D.mw D.pw tn RR,λmr Hb nmr sb Gm=>?_⟩;obtain ⟨pv,gpv,qpv,_⟩:=Gb.same (sa.trans sb);obtain ⟨mvs,gmv,qmv,_⟩:=id Gm;have lpv:=qpv.length;have lmv:=qmv.length;rw[ao] at lmv;walk_at "w";refine kB gpv gmv (bc (bF (by lia))) λcr Hc sc nc gc=>?_
   have sab:=sa.trans (sb.trans sc);have Gc':bP K (λ_=>none) Hc cr (pt++R.map (uO mv)):=zV (H:=Hb) (bW (Paired.imp' (λ_ _ ⟨q,e1,e2,e3⟩=>⟨q,e1,rfl,e3⟩) qpv) (Paired.imp' (λ_ _ ⟨q,e1,e2,e3⟩=>⟨q,e1,rfl,e3⟩) qmv)) sc nc gc;walk_at "w";refine ⟨x,Z.a_System,dx,_,_,rfl,sab _ _ gx,T.cl_System,T.na_states,xP,?_⟩;walk_at "w";refine ⟨cr,mv.length,_,_,_,rfl,Gc',by rw[av,ao];lia,by lia,λxs hx=>?_,F.step d8 D.mw D.pw tn RR,λrr R' ps' M' Hd nrr sd G' RR' pm' _ _ _=>?_⟩
   ·rcases ay.mp hx with hx | hx
    ·exact D.pw xs hx
    ·obtain ⟨y,_,rfl⟩:=aH.mp hx;exact EB
   have sbd:=sb.trans (sc.trans sd);have sad:=sa.trans sbd;have K1:=Cn rfl D.mw D.pw RR RR';have gud:=sbd _ _ gu;obtain ⟨rv,grv,qrv,_⟩:=id G';have lrv:=qrv.length;have lR':=RR'.1;have pn':=RR'.le;walk_at "w";refine ⟨_,_,rfl,.inl (bS.of grv),?_⟩;walk_at "w";refine cJ (bS.of gud) (zb _ _) ?_;obtain ⟨ov,gov,qov,_⟩:=Gq.same sbd;have lov:=qov.length;walk_at "w";refine ⟨_,_,rfl,.inl (bS.of gov),?_⟩;walk_at "w";refine iB (λh1=>?_) (λh1=>?_)
   ·have h1:=of_decide_eq_true h1;walk_at "w";refine fin Hd sbd λs hs=>⟨ps,?_⟩
    obtain ⟨s',rfl⟩:∃s',s=Rs.length+s':=⟨s - Rs.length,by lia⟩;exact Ks rfl D.mw D.pw RR RR' (by lia) s'
   ·have h1:¬((rv.length:Int)=ov.length):=λz=>h1 (decide_eq_true z)
    have gr:=L5 rfl D.mw D.pw RR K1;have rl:rr≠l:=λz=>by rw[z,(sb.trans sc) _ _ gu] at nrr;cases nrr
    have zc:∀q,Hc q=none->Hz q=none:=λq h=>nz q (sab.none h) (λz=>by rw[z,(sb.trans sc) _ _ gu] at h;cases h)
    walk_at "w";refine ⟨.inl ⟨rfl,_,bS.of gud⟩,?_⟩;walk_at "w";refine ja gud (bF (by lia)) ?_;refine ⟨⟨sad.after nl0,Rs++[R],R',_,_,rfl,aK,bW (Paired.imp' (λ_ _ ⟨q,e1,e2,e3⟩=>⟨q,e1,e2,bP.updL (bP.same e3 sbd) gud zl (zn q e2).2⟩) pa) (.cons ⟨rr,rfl,zc rr nrr,bP.updL (G'.weakN zc) gud zl rl⟩ .nil),Gw.snoc K1 (by lia),by rw[av,bB];lia⟩,?_⟩;simp only[gu,aK,av,bB] at lu h0 ⊢
    lia
  ·have h0:¬((us.length:Int)<=st):=λz=>h0 (decide_eq_true z)
   walk_at "w"
   exact fin Ha (aE.refl _) λs hs=>⟨ps,by
    have:s=Rs.length:=by lia
    rw[this];exact RR⟩
theorem Er:bu ["lists","joined","each"] ["lists"] (ax zL):=by walk_at "d"
theorem Od (T:Txt K mg Z):cK P w K mg base gi 1 Z.Fh Z.E5 ["lists"] (FQ K):=by
 refine T.IH.ok Er (λvs H Q E h=>?_) (λcdv A outer s H vs Q E hr h=>?_)
 ·obtain ⟨p,xs,Rs,rfl,_⟩:=h;rfl
 ·obtain ⟨p,xs,Rs,rfl,gx,qx,hl,k⟩:=h
  refine ⟨_,(ar (bp (i:=1) Er.nd rfl (Or.inl rfl) (di ag))
   (ar (dR PassesOwn.never rfl (cR (pv 0)) (aN (i:=2) Er.nd)
    (az (ij (yt dc PySem.F.slot_list_extend PySem.F.type_list_extend Km (pv 1) (aa (pv 2) ag)))))
   (az (aV (pv 1))))),?_⟩
  refine aS (σ:=[some (.ref p),none,none]) rfl ?_;have lx:=qx.length;walk_at "w";refine cQ λj H1 s1 n1 g1=>?_
  walk_at "w";refine ⟨⟨_,bS.of (s1 _ _ gx)⟩,?_⟩;refine fW (K:=K) (a:=p) (xs:=xs) (λi σ' H'=>aE H H'/\∃(us:List V) (x:Option V),σ'=[some (.ref p),some (.ref j),x]/\H' j=some (.lst us)/\Paired (dF K (C7 j) H') (Rs.take i).flatten us) ⟨s1,[],none,rfl,g1,.nil⟩ (λi σ' H' _ ⟨s,_⟩=>bS.of (s _ _ gx)) ?_ ?_
  ·rintro i x σ' H' hx ⟨s,us,y,rfl,gj,pr⟩;obtain ⟨qs,eq,q,rfl,_,Gq⟩:=cv qx hx;obtain ⟨qj,zs,gz,qz,_⟩:=Gq.off n1;have lz:=qz.length;have lu:=pr.length;have tl:(Rs.take (i+1)).flatten=(Rs.take i).flatten++qs:=by rw[take_snoc eq,jq];simp
   have bl:(Rs.take i).flatten.length+qs.length<=1000:=by
    have e:Rs.flatten=(Rs.take (i+1)).flatten++(Rs.drop (i+1)).flatten:=by rw[<- jq,List.take_append_drop]
    rw[e,tl,av,av] at hl
    lia
   walk_at "w";refine ⟨.inl ⟨rfl,_,bS.of gj⟩,?_⟩;walk_at "w";refine ⟨j,q,us,zs,rfl,rfl,gj,s _ _ gz,bc (bF (by lia)),?_⟩;refine ⟨s.after n1,_,_,rfl,aK,?_⟩;rw[tl];exact bW (Paired.imp' (λ_ _ z=>dF.updL z gj off_ne) pr) (Paired.imp' (λ_ _ z=>dF.updL (dF.same z s) gj off_ne) qz)
  ·rintro σ' H' ⟨s,us,y,rfl,gj,pr⟩;rw[aG (by lia)] at pr;walk_at "w";refine k j (C7 j) H' n1 s ⟨us,gj,pr,λz=>?_⟩;obtain ⟨_,_,q,e,h,_⟩:=cM pr z;cases e;exact off_ne h
theorem ky:bu ["system","steps","lists","rows","step"] ["system","steps"] (ax jT):=by walk_at "d"
theorem EE (T:Txt K mg Z):cK P w K mg base gi 7 Z.qT Z.qi ["system","steps"] (FU K Z.a_System):=by
 refine T.vR.ok ky (λvs H Q E h=>?_) (λcdv A outer s H vs Q E hr h=>?_)
 ·obtain ⟨x,u,a,c,H0,mv,pt,lk,rfl,_⟩:=h;rfl
 ·obtain ⟨x,u,a,c,H0,mv,pt,lk,rfl,hu,S,D,F,k⟩:=h
  refine ⟨_,(ar (bp (i:=2) ky.nd rfl (Or.inl rfl) (di ag))
   (ar (bp (i:=3) ky.nd rfl (Or.inl rfl) (kF (pv 0) rfl))
   (ar (dR PassesOwn.never rfl (cu rfl T.range (aa (pv 1) ag)) (aN (i:=4) ky.nd)
    (ar (ij (yt dc dm dk kd (pv 2) (aa (pv 3) ag)))
   (az (bp (i:=3) ky.nd rfl (Or.inl rfl) (cP (xp T) hr T.rH T.oW.kp T.tS (aa (pv 0) (aa (pv 3) ag)))))))
   (az (aV (pv 2)))))),?_⟩
  refine aS (σ:=[some (.ref x),some (.int u),none,none,none]) rfl ?_;obtain ⟨dx,a',b',c',gx,_,_,_,Ga,Gb,Gc⟩:=id S;have d8:=D.n8;have i4:=D.i4;walk_at "w";refine cQ λl H1 s1 n1 g1=>?_
  walk_at "w";refine ⟨x,Z.a_System,dx,_,_,rfl,s1 _ _ gx,T.cl_System,T.na_put,Eg,?_⟩;walk_at "w";obtain ⟨bl,G0⟩:=Gb.off n1;have G1:=G0.same s1;refine ⟨by lia,by lia,?_⟩;refine eN (n:=u) (λi σ' H'=>aE H H'/\∃q us y,σ'=[some (.ref x),some (.int u),some (.ref l),some (.ref q),y]/\q≠l/\H' l=some (.lst us)/\Paired (KQ K l H') (KH mv pt i) us/\bP K (C7 l) H' q (pt.map (jK mv i))) ⟨s1,b',[],_,rfl,bl,g1,.nil,by rw[show pt.map (jK mv 0)=pt from jB pt];exact G1⟩ ?_ ?_
  ·rintro i σ' H' hi ⟨s',q,us,y,rfl,ql,gu,pu,Gq⟩;have lu:=pu.length;have la:(KH mv pt i).length=i:=by unfold KH;rw[ao,cE]
   walk_at "w";refine ⟨.inl ⟨rfl,_,bS.of gu⟩,?_⟩;walk_at "w";refine ja gu (bF (by lia)) ?_;have s2:aE H (upd H' l (.lst (us++[V.ref q]))):=s'.after n1;have g2:(upd H' l (.lst (us++[V.ref q]))) l=some (.lst (us++[V.ref q])):=aK
   have p2:Paired (KQ K l (upd H' l (.lst (us++[V.ref q])))) (KH mv pt (i+1)) (us++[V.ref q]):=by
    rw[Fg];exact bW (Paired.imp' (λ_ _ z=>KQ.upd z gu) pu) (.cons ⟨q,rfl,ql,Gq.updL gu off_ne ql⟩ .nil)
   have Gq2:=Gq.updL (o:=.lst (us++[V.ref q])) gu off_ne ql;generalize upd H' l (.lst (us++[V.ref q]))=H2 at s2 g2 p2 Gq2 ⊢;walk_at "w";refine ⟨x,q,H0,C7 l,mv,pt,lk,_,rfl,S.same s2,D,Gq2,by rw[ao];lia,λr hr=>?_,F.fitP D.mw D.pw (by lia),λr H3 nr s3 G3=>?_⟩
   ·obtain ⟨y,hy,rfl⟩:=aH.mp hr;exact kE (D.pw y hy) i
   ·have e:(pt.map (jK mv i)).map (uO mv)=pt.map (jK mv (i+1)):=by rw[xh];rfl
    rw[e] at G3;exact ⟨s2.trans s3,r,_,_,rfl,λz=>(by rw[z,g2] at nr;cases nr),s3 _ _ g2,Paired.imp' (λ_ _ z=>KQ.same z s3) p2,G3.weakN λq h=>LO λz=>by rw[z,g2] at h;cases h⟩
  ·rintro σ' H' ⟨s',q,us,y,rfl,ql,gu,pu,Gq⟩;walk_at "w";exact k l us H' n1 s' gu pu
theorem CN:bu ["many"] ["many"] (ax iO):=by walk_at "d"
theorem rF (T:Txt K mg Z):cK P w K mg base gi 1 Z.oI Z.oo ["many"] (Pn K):=by
 refine T.kX.ok CN (λvs H Q E h=>?_) (λcdv A outer s H vs Q E hr h=>?_)
 ·obtain ⟨m,rfl,_⟩:=h;rfl
 ·obtain ⟨m,rfl,hm,k⟩:=h;refine ⟨_,(az (aV (cC ["place"] [] [] (cu rfl T.range (aa (pv 0) ag)) (λ_=>(aN (i:=0) (show List.Nodup (α:=PySem.Str) ["place"] by decide +kernel))) (λ_=>cG) (λ_=>(yr (v:=.ref Z.a_NOUGHT) rfl T.mg_NOUGHT rfl))))),?_⟩;refine aS (σ:=[some (.int m)]) rfl ?_;walk_at "w";refine ⟨by lia,by lia,?_⟩;refine fX (n:=m) (cx K) (λ_=>0) (by lia) (λa b=>a.same b) ?_ ?_
  ·rintro i Ha NY NN hi sa k1;walk_at "w";exact k1 _ _ (aE.refl _) ⟨_,rfl,T.sq_NOUGHT _⟩
  ·rintro ys H1 t ht s1 g1 pr _;exact k t H1 ht s1 ⟨ys,g1,by rw[<- LW];exact pr⟩
theorem rW:bu ["rows","wide","due","found","answer","line","lead"] ["rows","wide","due"] (ax rX):=by walk_at "d"
theorem DG (T:Txt K mg Z):cK P w K mg base gi 5 Z.zf Z.yO ["rows","wide","due"] (Br K):=by
 refine T.zm.ok rW (λvs H Q E h=>?_) (λcdv A outer s H vs Q E hr h=>?_)
 ·obtain ⟨p,q,n,w,H0,rows,due,rfl,_⟩:=h;rfl
 ·obtain ⟨p,q,n,w,H0,rows,due,rfl,G,Rd,hd,m99,n99,hw,F,k1,k2⟩:=h
  refine ⟨_,(ar (bp (i:=3) rW.nd rfl (Or.inl rfl) (cP (Gn T) hr T.BZ T.Be.kp T.Fc (aa (cC ["row","wanted"] [] [] (wd rfl T.zip (aa (pv 0) (aa (pv 2) ag))) (λ_=>(we K 2 (cH (aN (i:=0) (show List.Nodup (α:=PySem.Str) ["row","wanted"] by decide +kernel)) (cH (aN (i:=1) (show List.Nodup (α:=PySem.Str) ["row","wanted"] by decide +kernel)) jc)))) (λ_=>cG) (λ_=>(bL kG (pv 0) (di (aa (pv 1) ag))))) (aa (bL eF (pv 1) aj) ag))))
   (ar (cO (bC Kf (pv 1) (bw bY (pv 3) aj) (by with_unfolding_all rfl)) (az (aV zQ)) bT)
   (ar (bp (i:=4) rW.nd rfl (Or.inl rfl) (cP (rF T) hr T.mC T.kX.kp T.oH (aa (pv 1) ag)))
   (ar (dR PassesOwn.never rfl (wd rfl T.zip (aa (bw bY (pv 3) aj) (aa (bw bY (pv 3) aj) ag))) (va rfl (cH (aN (i:=5) rW.nd) (cH (aN (i:=6) rW.nd) jc)))
    (az (fz (cP (wg T) hr T.sv T.sG.kp T.vJ (aa (bw bV (pv 5) (pv 1)) (aa (bw bV (pv 5) (pv 6)) ag))) (ic (pv 4) (pv 6) set_list))))
   (az (aV (pv 4))))))),?_⟩
  refine aS (σ:=[some (.ref p),some (.int n),some (.ref q),none,none,none,none]) rfl ?_;obtain ⟨xs,gx,qx,_⟩:=id G;obtain ⟨ds,gd,qd⟩:=id Rd;have lx:=qx.length;have ld:=qd.length;have lj:=rL hd;walk_at "w";refine ⟨⟨_,bS.of gx⟩,⟨_,bS.of gd⟩,?_⟩;refine vG (K:=K) (xs:=xs) (ws:=ds) (λi ys H'=>aE H H'/\Paired (dF K H H') ((dh rows due).take i) ys) (bc (bF (by lia))) (by lia) ⟨aE.refl _,.nil⟩ (λi ys H' _ ⟨s,_⟩=>⟨bS.of (s _ _ gx),bS.of (s _ _ gd)⟩) ?_ ?_
  ·rintro i v1 v2 ys H' r h1 h2 hy ⟨s,pr⟩ hr;obtain ⟨row,er,u,rfl,_,Ru⟩:=cv qx h1;obtain ⟨d,ed,nd⟩:=cv qd h2;have wr:=hw row (aw er);have sr:aE H' (upd H' r (.tup [.ref u,v2])):=aE.new hr;have gr:(upd H' r (.tup [.ref u,v2])) r=some (.tup [.ref u,v2]):=aK;generalize upd H' r (.tup [.ref u,v2])=H2 at sr gr ⊢;have s2:=s.trans sr;walk_at "w";refine cQ λl1 H3 s3 n3 g3=>?_
   have s23:=s2.trans s3;obtain ⟨zs,gz,qz⟩:=Ru.same s23;have lz:=qz.length;walk_at "w";refine kB gz g3 (bc (bF (by rw[bB];lia))) λl2 H4 s4 n4 g4=>?_
   refine ⟨s23.trans s4,?_⟩;rw[take_snoc (OW er ed)];exact bW (Paired.imp' (λ_ _ z=>dF.same z ((sr.trans s3).trans s4)) pr) (.cons ⟨l2,rfl,s23.none n4,_,g4,Paired.imp' (λ_ _ z=>cx.same z s4) (bW qz (.cons (nd.same s23) .nil))⟩ .nil)
  rintro ys H1 hy ⟨s1,pr⟩ l hl;have sn:aE H1 (upd H1 l (.lst ys)):=aE.new hl;have gn:(upd H1 l (.lst ys)) l=some (.lst ys):=aK;rw[aG (by lia)] at pr;generalize upd H1 l (.lst ys)=H2 at sn gn ⊢;have GJ:bP K H H2 l (dh rows due):=zV pr sn hl gn;have s02:=s1.trans sn;walk_at "w";rw[show ((n:Int)+1)=((n+1:Nat):Int) by lia];refine ⟨l,n+1,w,H,_,rfl,GJ,by lia,by lia,yJ hw,F,λt lp qp R ps d ls H3 gt gq GZ s3 S=>?_⟩;have s03:=s02.trans s3;have pn:=S.rr.le;walk_at "w";refine ⟨qp,nF ps,rfl,.inl (bS.of gq),rfl,Kl,?_⟩;rw[Mb];by_cases hn:n∈ps
  ·rw[decide_eq_true hn,show (if false=true then !true else true)=true from rfl];walk_at "w";exact k2 R ps H3 S.rr hn s03
  ·rw[decide_eq_false hn,show (if false=true then !false else false)=false from rfl];obtain ⟨lR,wR,rr⟩:=id S.rr;obtain ⟨_,zs,gz,qz⟩:=id GZ;have lz:=qz.length;have hl':=S.len
   have low:∀j,j < ps.length->ps.getD j 0 < n:=λj hj=>by
    have:=rr.low j hj;have:ps.getD j 0≠n:=λz=>hn (by rw[<- z];exact getD_in hj)
    lia
   obtain ⟨_,_,_,_,_,_,_,_,_,e89⟩:=id F;rw[lj] at e89;have dsz:Sz 8999 d:=bJ S.dsz (d7 (by decide) (by rw[lj];lia));have lps:=LP (ps:=ps);walk_at "w";refine ⟨n,rfl,by lia,λan H4 na s4 R4=>?_⟩;rw[<- Nl (R:=R) (ps:=ps)] at R4;obtain ⟨vs0,g0,q0⟩:=id R4;have gt4:=s4 _ _ gt;walk_at "w";refine ⟨⟨_,bS.of (s4 _ _ gz)⟩,⟨_,bS.of (s4 _ _ gq)⟩,?_⟩;refine Oj (K:=K) (xs:=zs) (ws:=nF ps) (λj σ' H'=>aE H3 H'/\∃y1 y2 vs,σ'=[some (.ref p),some (.int n),some (.ref q),some (.ref t),some (.ref an),y1,y2]/\H' an=some (.lst vs)/\Paired (cx K H') (yl R ps n j) vs) (by lia) ⟨s4,_,_,vs0,rfl,g0,q0⟩ (λj σ' H' _ ⟨e,_⟩=>⟨bS.of (e _ _ gz),bS.of (e _ _ gq)⟩) ?_ ?_
   ·rintro j v1 v2 σ' H' r h1 h2 ⟨s',y1,y2,vs,rfl,ga,qa⟩ hr;obtain ⟨line,el,u,rfl,_,gu⟩:=cv qz h1;have wl:=S.wide line (aw el);obtain ⟨pj,ej,rfl⟩:=Og h2;have hj:j < ps.length:=(aB.mp ej).1;have ejD:ps.getD j 0=pj:=by rw[ae,ej];rfl
    have pjn:=low j hj;rw[ejD] at pjn;have v0:=S.val j n;rw[K3 el] at v0
    have ed:line.getD pj 0=d:=by
     have h:=S.val j pj;rw[K3 el] at h;have u:=rr.unit j hj j hj;rw[if_pos rfl,ejD] at u;rw[u,MR] at h;exact dX.mp h
    have sr:aE H' (upd H' r (.tup [.ref u,.int pj])):=aE.new hr;have gr:(upd H' r (.tup [.ref u,.int pj])) r=some (.tup [.ref u,.int pj]):=aK;generalize upd H' r (.tup [.ref u,.int pj])=H5 at sr gr ⊢;have gu5:=(s'.trans sr) _ _ gu;walk_at "w";refine cJ (bS.of gu5) (Bj (by lia)) ?_;walk_at "w";refine cJ (bS.of gu5) (Bj (by lia)) ?_;rw[ed];walk_at "w";refine ⟨_,d,rfl,S.d0,dsz,λr6 H6 s6 g6=>?_⟩;have d0:(d:Rat)≠0:=λz=>S.d0 (vH z)
    have n6:cx K H6 (cZ R j n) (.ref r6):=by
     refine cx.mk g6 ?_;rcases Int.lt_or_lt_of_ne S.d0 with hd' | hd'
     ·rw[if_pos hd',if_pos hd'];refine tx (by lia) ?_;rw[dS,dS,v0];grind
     ·rw[if_neg (by lia),if_neg (by lia)];refine tx hd' ?_;rw[v0];grind
    have ga6:=(sr.trans s6) _ _ ga;have la:=qa.length;rw[lF] at la;walk_at "w";refine fu ga6 (fE (by lia)) rfl ?_;refine ⟨((s'.trans sr).trans s6).after na,_,_,_,rfl,aK,?_⟩;rw[<- Nn S.rr hj,ejD];exact lQ (Paired.imp' (λ_ _ z=>(cx.same z (sr.trans s6)).updL ga6) qa) pj (n6.updL ga6)
   ·rintro σ' H' ⟨s',y1,y2,vs,rfl,ga,qa⟩;rw[show zs.length=ps.length by lia] at qa;walk_at "w";refine k1 an R ps d.natAbs H' S.rr hn (s03.none na) (s03.trans s') ⟨vs,ga,qa⟩ (by have:=S.d0;lia) (by rw[<- lj];exact S.dsz) ?_;rw[<- lj];exact Rn (by have:=S.d0;lia) S.tp S.rr
theorem BE:bu ["grid","wide"] ["grid","wide"] (ax gY):=by walk_at "d"
theorem pK (T:Txt K mg Z):cK P w K mg base gi 1 Z.mU Z.mG ["grid","wide"] (FE K):=by
 refine T.jy.ok BE (λvs H Q E h=>?_) (λcdv A outer s H vs Q E hr h=>?_)
 ·obtain ⟨p,w,H0,rows,rfl,_⟩:=h;rfl
 ·obtain ⟨p,w,H0,rows,rfl,hp,hz,hw,hl,kk⟩:=h;refine ⟨_,(az (aV (cC ["place"] ["grid"] [0] (cu rfl T.range (aa (pv 1) ag)) (λ_=>(aN (i:=0) (show List.Nodup (α:=PySem.Str) ["place","grid"] by decide +kernel) rfl (Or.inr rfl) (Or.inl rfl))) (λ_=>cG) (λ_=>(cC ["line"] ["place"] [0] (Gk K (pv 1)) (λ_=>(aN (i:=0) (show List.Nodup (α:=PySem.Str) ["line","place"] by decide +kernel))) (λ_=>cG) (λ_=>(bw (nG K (by rfl)) (pv 0) (pv 1)))))))),?_⟩;refine aS (σ:=[some (.ref p),some (.int w)]) rfl ?_;walk_at "w";refine ⟨by lia,by lia,?_⟩;refine fX (n:=w) (dF K H) (λj=>rows.map λxs=>xs.getD j 0) hw (λa b=>a.same b) ?_ ?_
  ·rintro j H1 NY NN hj s1 k1;obtain ⟨xs,gx,qx,_⟩:=hp.same s1;walk_at "w";refine ⟨⟨_,bS.of gx⟩,?_⟩;refine ff (K:=K) (F:=dF K H0) (cx K) (λxs=>xs.getD j 0) gx qx hz (λa b=>a.same b) (λa b=>a.same b) ?_ ?_
   ·rintro i ns x H2 NY2 NN2 en s2 ⟨u,rfl,_,zs,gz,qz⟩ k2;obtain ⟨v,ev,hv⟩:=Kt qz (j:=j) (by rw[hl ns (aw en)];exact hj);walk_at "w";refine cJ (bS.of gz) ev ?_;exact k2 _ _ (aE.refl _) hv
   ·rintro ys' H2 r hr s2 g pr nx;exact k1 _ _ s2 ⟨r,rfl,s1.none hr,ys',g,pr⟩
  ·rintro ys' H1 r hr s1 g pr nx;exact kk r H1 hr s1 ⟨ys',g,pr,nZ nx⟩
theorem BB:bu ["rows","wide","due","answer","columns"] ["rows","wide","due"] (ax v5):=by walk_at "d"
theorem LM (T:Txt K mg Z):cK P w K mg base gi 6 Z.A8 Z.A5 ["rows","wide","due"] (Dp K):=by
 refine T.Fo.ok BB (λvs H Q E h=>?_) (λcdv A outer s H vs Q E hr h=>?_)
 ·obtain ⟨p,q,n,w,w1,H0,rows,due,rfl,_⟩:=h;rfl
 ·obtain ⟨p,q,n,w,w1,H0,rows,due,rfl,G,Rd,hd,m90,n90,hw,F,F1,k1,k2⟩:=h
  refine ⟨_,(ar (bp (i:=3) BB.nd rfl (Or.inl rfl) (cP (DG T) hr T.zR T.zm.kp T.Cv (aa (pv 0) (aa (pv 1) (aa (pv 2) ag)))))
   (ar (cO (bC Jh (pv 3) zQ (bK _)) (az (aV (cL (aa sV (aa (pv 3) ag))))) bT)
   (ar (bp (i:=4) BB.nd rfl (Or.inl rfl) (cP (pK T) hr T.kJ T.jy.kp T.mO (aa (pv 0) (aa (pv 1) ag))))
   (az (aV (cL (aa sV (aa (cP (DG T) hr T.zR T.zm.kp T.Cv (aa (bL kG (pv 4) (di (aa (pv 2) ag))) (aa (bD aZ (by rfl) T.len aP (aa (pv 0) ag)) (aa (bL kG (cP (rF T) hr T.mC T.kX.kp T.oH (aa (pv 1) ag)) (di (aa (yr (v:=.ref Z.a_ONE) rfl T.mg_ONE rfl) ag))) ag)))) ag)))))))),?_⟩
  refine aS (σ:=[some (.ref p),some (.int n),some (.ref q),none,none]) rfl ?_;walk_at "w";refine ⟨p,q,n,w,H0,rows,due,rfl,G,Rd,hd,by lia,by lia,hw,F,λx R ps M H1 RR hn nx s1 Rx M0 M1 tM=>?_,λR ps H1 RR hn s1=>?_⟩
  ·walk_at "w";refine ⟨rfl,_,rfl,?_⟩;rw[show decide (V.ref x=V.non)=false from decide_eq_false (λz=>nomatch z)];walk_at "w";refine bZ λt H2 s2 g2=>?_
   exact k1 t x R ps M H2 RR hn g2 nx (s1.trans s2) (Rx.same s2) M0 M1 tM
  ·walk_at "w";refine ⟨rfl,_,rfl,?_⟩;rw[show decide (V.non=V.non)=true from decide_eq_true rfl];walk_at "w";refine ⟨p,n,H0,rows,rfl,G.same s1,by lia,by lia,hw,λco H2 nc s2 G2=>?_⟩;have s02:=s1.trans s2;walk_at "w";refine cQ λl3 H3 s3 n3 g3=>?_
   obtain ⟨cs,gc,qc,_⟩:=G2.same s3;have lc:=qc.length;rw[du] at lc;walk_at "w";refine kB gc g3 (bc (bF (by rw[bB];lia))) λl4 H4 s4 n4 g4=>?_
   have s03:=s02.trans s3;have s04:=s03.trans s4;have G4:bP K (λ_=>none) H4 l4 (cW rows n++[due]):=zV (H:=H3) (bW (Paired.imp' (λ_ _ ⟨q',a,_,c⟩=>⟨q',a,rfl,c⟩) qc) (.cons ⟨q,rfl,rfl,Rd.same s03⟩ .nil)) s4 n4 g4;obtain ⟨xs,gx,qx,_⟩:=G.same s04;have lx:=qx.length;walk_at "w";refine ⟨_,_,rfl,.inl (bS.of gx),?_⟩;rw[<- lx];walk_at "w";refine ⟨n,rfl,by lia,λl5 H5 n5 s5 R5=>?_⟩;walk_at "w";refine cQ λl6 H6 s6 n6 g6=>?_
   obtain ⟨zs,gz,qz⟩:=R5.same s6;have lz:=qz.length;rw[aI] at lz;walk_at "w";refine kB gz g6 (bc (bF (by rw[bB];lia))) λl7 H7 s7 n7 g7=>?_
   have s47:=(s5.trans s6).trans s7;have s07:=s04.trans s47;have R7:cw K H7 l7 (List.replicate n 0++[1]):=⟨_,g7,Paired.imp' (λ_ _ z=>cx.same z s7) (bW qz (.cons ⟨_,rfl,T.sq_ONE _⟩ .nil))⟩;have l1:(cW rows n++[due]).length=n+1:=by rw[av,du];rfl
   have w1':∀xs∈cW rows n++[due],xs.length=rows.length:=λxs hx=>by
    rcases ay.mp hx with hx | hx
    ·exact lD xs hx
    ·rw[bN.mp hx];exact hd
   walk_at "w";refine ⟨l4,l7,rows.length,w1,_,_,_,rfl,G4.same s47,R7,by rw[l1,av,aI];rfl,by lia,by lia,w1',F1,λx R1 p1 M H8 RR1 hn1 nx s8 Rx M0 M1 tM=>?_,λR1 p1 H8 RR1 hn1 s8=>?_⟩
   ·walk_at "w";refine bZ λt H9 s9 g9=>?_
    rw[l1] at M1 tM;exact k2 t x R ps R1 p1 M H9 RR hn RR1 hn1 g9 (s07.none nx) ((s07.trans s8).trans s9) (Rx.same s9) M0 M1 tM
   ·exact absurd hn1 (Ka hd hw RR hn RR1)
theorem uX:bu ["rows","wide","row","answer"] ["rows","wide","row"] (ax gV):=by walk_at "d"
theorem BQ (T:Txt K mg Z):cK P w K mg base gi 7 Z.mR Z.mD ["rows","wide","row"] (Ag K):=by
 refine T.rO.ok uX (λvs H Q E h=>?_) (λcdv A outer s H vs Q E hr h=>?_)
 ·obtain ⟨p,q,n,w,w1,H0,rows,row,rfl,_⟩:=h;rfl
 ·obtain ⟨p,q,n,w,w1,H0,rows,row,rfl,G,Rr,hl,m90,n90,hw,F,F1,k1,k2⟩:=h
  refine ⟨_,(ar (bp (i:=3) uX.nd rfl (Or.inl rfl) (cP (LM T) hr T.Gz T.Fo.kp T.JG (aa (cP (pK T) hr T.kJ T.jy.kp T.mO (aa (pv 0) (aa (pv 1) ag))) (aa (bD aZ (by rfl) T.len aP (aa (pv 0) ag)) (aa (pv 2) ag)))))
   (az (aV (cL (aa (LI (bC fq (bw bY (pv 3) aj) sV (bK _)) sV sV) (aa (bw bY (pv 3) aj) ag)))))),?_⟩
  refine aS (σ:=[some (.ref p),some (.int n),some (.ref q),none]) rfl ?_;walk_at "w";refine ⟨p,n,H0,rows,rfl,G,by lia,by lia,hw,λco H1 nc s1 G1=>?_⟩;obtain ⟨xs,gx,qx,_⟩:=G.same s1;have lx:=qx.length;walk_at "w";refine ⟨_,_,rfl,.inl (bS.of gx),?_⟩;rw[<- lx];have lT:(cW rows n).length=n:=du;have eS:Lb (cW rows n) rows.length row=dh (rows++[row]) (List.replicate rows.length 0++[1]):=by unfold Lb;rw[JQ hw]
  walk_at "w";refine ⟨co,q,rows.length,w,w1,_,cW rows n,row,rfl,G1,Rr.same s1,by lia,by lia,by lia,λxs hx=>lD xs hx,F,by rw[eS,lT];exact F1,λt x R ps M H2 RR hn g2 nx s2 Rx M0 M1 tM=>?_,λt x R ps R1 p1 M H2 RR hn RR1 hn1 g2 nx s2 Rx M0 M1 tM=>?_⟩
  ·rw[lT] at M1 tM;walk_at "w";rw[decide_eq_true rfl];walk_at "w";refine bZ λt2 H3 s3 g3=>?_
   exact k1 t2 x R ps M H3 RR hn g3 (s1.none nx) ((s1.trans s2).trans s3) (Rx.same s3) M0 M1 tM
  ·rw[lT] at M1 tM RR1 hn1 Rx;rw[eS] at RR1;walk_at "w";rw[decide_eq_false (show ¬(Str.ofString "no"=Str.ofString "yes") by decide)];walk_at "w";refine bZ λt2 H3 s3 g3=>?_
   exact k2 t2 x R ps R1 p1 M H3 RR hn RR1 hn1 g3 (s1.none nx) ((s1.trans s2).trans s3) (Rx.same s3) M0 M1 tM
theorem Lk:bu ["one","other"] ["one","other"] (ax v7):=by walk_at "d"
theorem LN (T:Txt K mg Z):cK P w K mg base gi 3 Z.A9 Z.A6 ["one","other"] (sQ K (λx y=>x - y)):=by
 refine T.Fp.ok Lk (λvs H Q E h=>?_) (λcdv A outer s H vs Q E hr h=>?_)
 ·obtain ⟨p,q,a,b,c,d,rfl,hp,hq,hb,hd,sa,sb,sc,sd,k⟩:=AW h;rfl
 ·obtain ⟨p,q,a,b,c,d,rfl,hp,hq,hb,hd,sa,sb,sc,sd,k⟩:=AW h;refine ⟨_,(az (aV (cP (wg T) hr T.sv T.sG.kp T.vJ (aa (bL lU (bL dq (bw bY (pv 0) aj) (bw bY (pv 1) aj)) (bL dq (bw bY (pv 1) aj) (bw bY (pv 0) aj))) (aa (bL dq (bw bY (pv 0) aj) (bw bY (pv 1) aj)) ag))))),?_⟩;refine aS (σ:=[some (.ref p),some (.ref q)]) rfl ?_;have hbd:0 < b*d:=pS hb hd;have sbd:Sz 8999 (b*d):=(sb.mul sd).mono (by decide);walk_at "w";refine gL (show js _ _ from .inr ⟨_,_,sa,sd,by decide⟩) ?_;walk_at "w";refine gL (show js _ _ from .inr ⟨_,_,sc,sb,by decide⟩) ?_;walk_at "w";refine gL (show js _ _ from .inr ⟨_,_,sb,sd,by decide⟩) ?_;walk_at "w";walk_at "w";refine ⟨_,_,rfl,by lia,sbd,λr H' s' h'=>?_⟩;rw[if_neg (by lia),if_neg (by lia)] at h';exact k r H' s' h'
theorem Eo:bu ["one","other"] ["one","other"] (ax jR):=by walk_at "d"
theorem EC (T:Txt K mg Z):cK P w K mg base gi 4 Z.qR Z.qg ["one","other"] (zG K):=by
 refine T.vP.ok Eo (λvs H Q E h=>?_) (λcdv A outer s H vs Q E hr h=>?_)
 ·obtain ⟨p,q,xq,yq,rfl,_⟩:=h;rfl
 ·obtain ⟨p,q,xq,yq,rfl,hp,hq,hl,hz,hn,hm,k⟩:=h;refine ⟨_,(az (aV (cC ["mine","yours"] [] [] (wd rfl T.zip (aa (pv 0) (aa (pv 1) ag))) (λ_=>(we K 2 (cH (aN (i:=0) (show List.Nodup (α:=PySem.Str) ["mine","yours"] by decide +kernel)) (cH (aN (i:=1) (show List.Nodup (α:=PySem.Str) ["mine","yours"] by decide +kernel)) jc)))) (λ_=>cG) (λ_=>(cP (LN T) hr T.GA T.Fp.kp T.JH (aa (pv 0) (aa (pv 1) ag))))))),?_⟩;refine aS (σ:=[some (.ref p),some (.ref q)]) rfl ?_;obtain ⟨xs,gx,qx⟩:=id hp;obtain ⟨ys,gy,qy⟩:=id hq;have lx:=qx.length;have ly:=qy.length;walk_at "w";refine ⟨⟨_,bS.of gx⟩,⟨_,bS.of gy⟩,?_⟩;refine vG (K:=K) (xs:=xs) (ws:=ys) (λi zs H'=>aE H H'/\Paired (cx K H') ((List.zipWith (λx y=>x - y) xq yq).take i) zs) (bc (bF (by lia))) (by lia) ⟨aE.refl _,.nil⟩ (λi zs H' _ ⟨s,_⟩=>⟨bS.of (s _ _ gx),bS.of (s _ _ gy)⟩) ?_ ?_
  ·rintro i x y zs H' r hx hy hlen ⟨s,hP⟩ hr;obtain ⟨n,en,hn1⟩:=cv qx hx;obtain ⟨m,em,hm1⟩:=cv qy hy;have s1:=aE.new (o:=.tup [x,y]) hr;have s01:=s.trans s1;have gr:(upd H' r (.tup [x,y])) r=some (.tup [x,y]):=aK;generalize upd H' r (.tup [x,y])=Hr at s1 s01 gr ⊢;walk_at "w";refine ⟨_,_,n,m,rfl,hn1.same s01,hm1.same s01,hn n (aw en),hm m (aw em),λr3 H3 s3 h3=>?_⟩;refine ⟨s01.trans s3,?_⟩;have ez:(List.zipWith (λx y=>x - y) xq yq)[i]?=some (n - m):=by rw[b9,en,em]
   rw[take_snoc ez];exact bW (Paired.imp' (λ_ _ z=>z.same (s1.trans s3)) hP) (.cons h3 .nil)
  ·rintro zs H' hy ⟨s,hP⟩ l hl';rw[aG (by rw[cX];lia)] at hP;exact k l _ (s.none hl') (s.trans (aE.new hl')) ⟨zs,aK,Paired.imp' (λ_ _ z=>z.same (aE.new hl')) hP⟩
theorem uF:bu ["self","state","puts","columns"] ["self","state","puts"] (ax fV):=by walk_at "d"
theorem AO (T:Txt K mg Z):cK P w K mg base gi 5 Z.kT Z.kQ ["self","state","puts"] (Dt K Z.a_System):=by
 refine T.vY.ok uF (λvs H Q E h=>?_) (λcdv A outer s H vs Q E hr h=>?_)
 ·obtain ⟨x,p,q,H0,mv,pt,lk,st,pu,rfl,_⟩:=h;rfl
 ·obtain ⟨x,p,q,H0,mv,pt,lk,st,pu,rfl,S,D,F,hp,hq,l1,l2,fs,k⟩:=h
  refine ⟨_,(ar (bp (i:=3) uF.nd rfl (Or.inl rfl) (cP (pK T) hr T.kJ T.jy.kp T.mO (aa (kF (pv 0) rfl) (aa (kF (pv 0) rfl) ag))))
   (az (aV (cC ["line","column"] ["state","puts"] [1,2] (wd rfl T.zip (aa (kF (pv 0) rfl) (aa (pv 3) ag))) (λ_=>(we K 2 (cH (aN (i:=0) (show List.Nodup (α:=PySem.Str) ["line","column","state","puts"] by decide +kernel)) (cH (aN (i:=1) (show List.Nodup (α:=PySem.Str) ["line","column","state","puts"] by decide +kernel)) jc)))) (λ_=>cG) (λ_=>(cP (BR T) hr T.xZ T.xa.kp T.z5 (aa (bL kG (pv 0) (pv 1)) (aa (bL kG (pv 2) (pv 3)) ag)))))))),?_⟩
  refine aS (σ:=[some (.ref x),some (.ref p),some (.ref q),none]) rfl ?_;obtain ⟨dx,a,b,c,gx,n1,n2,n3,Ga,Gb,Gc⟩:=id S;have d1:=D.n8;have d2:=D.i4;walk_at "w";refine ⟨x,Z.a_System,dx,_,_,rfl,gx,T.cl_System,T.na_put,Eg,?_⟩;walk_at "w";refine ⟨x,Z.a_System,dx,_,_,rfl,gx,T.cl_System,T.na_states,xP,?_⟩;walk_at "w";refine ⟨b,mv.length,H0,pt,rfl,Gb,by lia,by lia,D.pw,λt H1 nt s1 Gt=>?_⟩;obtain ⟨as,ga,qa,_⟩:=Ga.same s1;obtain ⟨ts,gt,qt,_⟩:=id Gt;have la:=qa.length;have lt:=qt.length;rw[du] at lt;have gx1:=s1 _ _ gx;walk_at "w";refine ⟨x,Z.a_System,dx,_,_,rfl,gx1,T.cl_System,T.na_move,FD,?_⟩;walk_at "w";refine ⟨⟨_,bS.of ga⟩,⟨_,bS.of gt⟩,?_⟩;refine vG (K:=K) (xs:=as) (ws:=ts) (λi ys H'=>aE H1 H'/\Paired (cx K H') ((ie mv pt st pu).take i) ys) (bc (bF (by lia))) (by lia) ⟨aE.refl _,.nil⟩ (λi ys H' _ ⟨s,_⟩=>⟨bS.of (s _ _ ga),bS.of (s _ _ gt)⟩) ?_ ?_
  ·rintro i v1 v2 ys H' r h1 h2 hy ⟨s,pr⟩ hr;obtain ⟨line,el,u1,rfl,_,R1⟩:=cv qa h1;obtain ⟨col,ec,u2,rfl,_,R2⟩:=cv qt h2;have ml:=aw el;have mc:=aw ec;have sr:aE H' (upd H' r (.tup [.ref u1,.ref u2])):=aE.new hr;have gr:(upd H' r (.tup [.ref u1,.ref u2])) r=some (.tup [.ref u1,.ref u2]):=aK;have s2:=s.trans sr;generalize upd H' r (.tup [.ref u1,.ref u2])=H2 at sr gr s2 ⊢;have lc:col.length=pt.length:=lD col mc;have ll:line.length=mv.length:=D.mw line ml;obtain ⟨z1,g1,q1⟩:=R1.same s2;obtain ⟨z2,g2,q2⟩:=R2.same s2;have y1:=q1.length;have y2:=q2.length;walk_at "w";refine kB g1 g2 (bc (bF (by lia))) λc1 H3 s3 n3' g3=>?_
   have s13:=s2.trans s3;obtain ⟨z3,g4,q3⟩:=(hp.same s1).same s13;obtain ⟨z4,g5,q4⟩:=(hq.same s1).same s13;have y3:=q3.length;have y4:=q4.length;walk_at "w";refine kB g4 g5 (bc (bF (by lia))) λc2 H4 s4 n4 g6=>?_
   have s34:=s3.trans s4;walk_at "w";refine ⟨c1,c2,line++col,st++pu,rfl,⟨_,s4 _ _ g3,Paired.imp' (λ_ _ z=>z.same s34) (bW q1 q2)⟩,⟨_,g6,Paired.imp' (λ_ _ z=>z.same s4) (bW q3 q4)⟩,by rw[av,av];lia,by rw[av];lia,.sys ?_ fs,λr2 H5 s5 h5=>?_⟩
   ·refine F.fits λy hy=>?_
    rcases ay.mp hy with hy | hy
    ·exact .inl ⟨line,ml,hy⟩
    ·obtain ⟨j,_,rfl⟩:=aH.mp mc;obtain ⟨xs,hx,rfl⟩:=aH.mp hy;by_cases hj:j < xs.length
     ·refine .inr (.inl ⟨xs,hx,?_⟩);rw[ae,af hj];exact aT hj
     ·exact .inr (.inr (.inr (by rw[ae,aR (by lia)];rfl)))
   ·have em:(ie mv pt st pu)[i]?=some (eC (line++col) (st++pu)):=by
     unfold ie;rw[b9,el,ec]
    refine ⟨((s2.trans s34).trans s5),?_⟩;rw[take_snoc em];exact bW (Paired.imp' (λ_ _ z=>(z.same (sr.trans s34)).same s5) pr) (.cons h5 .nil)
  ·rintro ys H' hy ⟨s,pr⟩ l hl;have lm:(ie mv pt st pu).length=mv.length:=by unfold ie;rw[cX,du];lia
   rw[aG (by lia)] at pr;exact k l _ (s1.none (s.none hl)) ((s1.trans s).trans (aE.new hl)) ⟨ys,aK,Paired.imp' (λ_ _ z=>z.same (aE.new hl)) pr⟩
theorem zJ:bu ["system","start","puts","states","row"] ["system","start","puts"] (ax sk):=by walk_at "d"
theorem Kh (T:Txt K mg Z):cK P w K mg base gi 6 Z.zi Z.yR ["system","start","puts"] (By K Z.a_System):=by
 refine T.CA.ok zJ (λvs H Q E h=>?_) (λcdv A outer s H vs Q E hr h=>?_)
 ·obtain ⟨x,s,p,H0,H1,mv,pt,lk,pus,st,rfl,_⟩:=h;rfl
 ·obtain ⟨x,s,p,H0,H1,mv,pt,lk,pus,st,rfl,S,D,F,Rs,ls,Gp,lp,wp,cf,k⟩:=h
  refine ⟨_,(ar (bp (i:=3) zJ.nd rfl (Or.inl rfl) (di (aa (d5 tR (by rfl) T.list PyProof.Rows.boot_list (aa (pv 1) ag)) ag)))
   (ar (dR PassesOwn.never rfl (cR (pv 2)) (aN (i:=4) zJ.nd)
    (az (ij (yt dc dm dk kd (pv 3) (aa (N9 (pv 0) T.cl_System T.uH (AO T) (hr.mono (by decide)) T.vM .nil DD (aa (bw bV (pv 3) (Aj uQ aj)) (aa (pv 4) ag))) ag)))))
   (az (aV (pv 3))))),?_⟩
  refine aS (σ:=[some (.ref x),some (.ref s),some (.ref p),none,none]) rfl ?_;have d1:=D.n8;obtain ⟨ss,gs,qs⟩:=id Rs;obtain ⟨ps,gp,qp,_⟩:=id Gp;have lps:=qp.length;walk_at "w";refine ⟨s,ss,rfl,.inl (bS.of gs),λc hc=>?_⟩;have sc:aE H (upd H c (.lst ss)):=aE.new hc;have Rc:cw K (upd H c (.lst ss)) c st:=⟨ss,aK,Paired.imp' (λ_ _ z=>z.same sc) qs⟩;generalize upd H c (.lst ss)=Hc at sc Rc ⊢;walk_at "w";refine cQ λl Hl sl nl gl=>?_
  have hl0:=sc.none nl;have s0:=sc.trans sl;have cl:c≠l:=λz=>by obtain ⟨_,g,_⟩:=Rc;rw[z,nl] at g;cases g
  have pr0:Paired (z8 K H l Hl) ((qI mv pt st pus).take 1) [V.ref c]:=by
   have:(qI mv pt st pus).take 1=[st]:=by
    have e:=take_snoc (wK (mv:=mv) (pt:=pt) (st:=st) (pus:=pus) (k:=0) (bx _));rw[e];rfl
   rw[this];exact .cons ⟨c,rfl,hc,cl,Rc.same sl⟩ .nil
  walk_at "w";refine ⟨⟨_,bS.of (s0 _ _ gp)⟩,?_⟩;refine fW (K:=K) (a:=p) (xs:=ps) (λi σ' H'=>aE H H'/\(∃y ys,σ'=[some (.ref x),some (.ref s),some (.ref p),some (.ref l),y]/\H' l=some (.lst ys)/\Paired (z8 K H l H') ((qI mv pt st pus).take (i+1)) ys)) ⟨s0,_,_,rfl,gl,pr0⟩ (λi σ' H' _ ⟨e,_⟩=>bS.of (e _ _ gp)) ?_ ?_
  ·rintro i v σ' H' hv ⟨e,y,ys,rfl,g,pr⟩;obtain ⟨pu,epu,u,rfl,_,Ru⟩:=cv qp hv;have hi:i < pus.length:=(aB.mp epu).1;have mp:=aw epu;have ly:=pr.length;rw[cT,yc] at ly;have ec:=wK (mv:=mv) (pt:=pt) (st:=st) (pus:=pus) (k:=i) (by lia);have el:ys[i]?=some (ys[i]'(by lia)):=af (by lia)
   obtain ⟨vl,evl,q,hq1,hq2,hq3,Rq⟩:∃vl,ys[i]?=some vl/\∃q,vl=V.ref q/\H q=none/\q≠l/\cw K H' q (sP mv pt st pus i):=by
    obtain ⟨xs,ex,w⟩:=cv pr el;rw[zz (by lia),ec] at ex;cases ex;exact ⟨_,el,w⟩
   subst hq1
   have ey:∃zs,ys=zs++[V.ref q]:=by
    refine ⟨ys.take i,?_⟩;rw[<- take_snoc evl,aG (by lia)]
   obtain ⟨zs,rfl⟩:=ey;walk_at "w";refine ⟨.inl ⟨rfl,_,bS.of g⟩,?_⟩;walk_at "w";obtain ⟨dx,_,_,_,gx,_⟩:=S.same e;refine ⟨x,dx,_,rfl,gx,JT,?_⟩;walk_at "w";refine cJ (bS.of g) (zb _ _) ?_;walk_at "w";refine ⟨x,q,u,H0,mv,pt,lk,_,pu,rfl,S.same e,D,F,Rq,Ru.same e,sO ls (by lia),wp pu mp,cf.both (by lia) mp,λr1 H2 n2 s2 R2=>?_⟩;have gn:=s2 _ _ g;walk_at "w";refine ja gn (bF (by lia)) ?_;refine ⟨J5 (e.trans s2) hl0,_,_,rfl,aK,?_⟩;rw[take_snoc (wK (by lia)),uW epu];have rl:r1≠l:=λz=>by rw[z,g] at n2;cases n2
   exact bW (Paired.imp' (λ_ _ z=>(z8.same z s2).upd gn) pr) (.cons ⟨r1,rfl,e.none n2,rl,R2.updL gn rl⟩ .nil)
  ·rintro σ' H' ⟨e,y,ys,rfl,g,pr⟩;walk_at "w";rw[aG (by rw[yc];lia)] at pr;exact k l H' hl0 e ⟨ys,g,Paired.imp' (λ_ _ z=>z8.rowF z) pr,BI pr⟩
theorem BD:bu ["system","steps"] ["system","steps"] (ax gX):=by walk_at "d"
theorem vh (T:Txt K mg Z):cK P w K mg base gi 2 Z.mT Z.mF ["system","steps"] (FJ K Z.a_System):=by
 refine T.ni.ok BD (λvs H Q E h=>?_) (λcdv A outer s H vs Q E hr h=>?_)
 ·obtain ⟨x,tt,H0,mv,pt,lk,rfl,_⟩:=h;rfl
 ·obtain ⟨x,tt,H0,mv,pt,lk,rfl,hT,S,D,k⟩:=h;refine ⟨_,(az (aV (cC ["step"] ["system"] [0] (cu rfl T.range (aa (pv 1) ag)) (λ_=>(aN (i:=0) (show List.Nodup (α:=PySem.Str) ["step","system"] by decide +kernel))) (λ_=>cG) (λ_=>(cP (rF T) hr T.mC T.kX.kp T.oH (aa (Jg K (pv 1) rfl) ag)))))),?_⟩;refine aS (σ:=[some (.ref x),some (.int tt)]) rfl ?_;obtain ⟨dx,a',b',c',gx,_,_,_,Ga,Gb,Gc⟩:=id S;have i4:=D.i4;walk_at "w";refine ⟨by lia,by lia,?_⟩;refine fX (n:=tt) (dF K H) (λ(_:Nat)=>List.replicate pt.length (0:Rat)) (by lia) (λa b=>a.same b) ?_ ?_
  ·rintro i Hb NY NN hi sa k1;walk_at "w";refine ⟨x,Z.a_System,dx,_,_,rfl,sa _ _ gx,T.cl_System,T.na_ins,IS,?_⟩;walk_at "w";exact ⟨pt.length,rfl,by lia,λr H2 nr s2 R2=>k1 _ _ s2 ⟨r,rfl,sa.none nr,R2⟩⟩
  rintro ys Hz t ht sz g pr nx;have e:(List.range tt).map (λ(_:Nat)=>List.replicate pt.length (0:Rat))=List.replicate tt (List.replicate pt.length 0):=by rw[CH,cE]
  rw[e] at pr nx;exact k t Hz ht sz ⟨ys,g,pr,nZ nx⟩
theorem HJ:bu ["system","start","goal","steps"] ["system","start","goal","steps"] (ax o9):=by walk_at "d"
theorem Ib (T:Txt K mg Z):cK P w K mg base gi 7 Z.wW Z.wF ["system","start","goal","steps"] (FO K Z.a_System):=by
 refine T.Ad.ok HJ (λvs H Q E h=>?_) (λcdv A outer s H vs Q E hr h=>?_)
 ·obtain ⟨x,s,g,tt,H0,mv,pt,lk,st,go,rfl,_⟩:=h;rfl
 ·obtain ⟨x,s,g,tt,H0,mv,pt,lk,st,go,rfl,hT,S,D,F,Rs,ls,Rg,lg,cf,sg,k⟩:=h;refine ⟨_,(az (aV (cP (EC T) hr T.yy T.vP.kp T.Aq (aa (pv 2) (aa (bw bV (cP (Kh T) hr T.DJ T.CA.kp T.G5 (aa (pv 0) (aa (pv 1) (aa (cP (vh T) hr T.pN T.ni.kp T.rM (aa (pv 0) (aa (pv 3) ag))) ag)))) (Aj uQ aj)) ag))))),?_⟩;refine aS (σ:=[some (.ref x),some (.ref s),some (.ref g),some (.int tt)]) rfl ?_;have d8:=D.n8;have i4:=D.i4;walk_at "w";refine ⟨x,tt,H0,mv,pt,lk,rfl,by lia,S,D,λp1 H1 n1 s1 G1=>?_⟩;walk_at "w";refine ⟨x,s,p1,H0,H,mv,pt,lk,_,st,rfl,S.same s1,D,F,Rs.same s1,ls,G1,by rw[aI];lia,λxs hx=>by rw[(dB.mp hx).2,aI],cf,λp2 H2 n2 s2 G2=>?_⟩;obtain ⟨us,gu,qu,_⟩:=id G2;have lu:=qu.length;rw[yc,aI] at lu;have ec:=wK (mv:=mv) (pt:=pt) (st:=st) (pus:=List.replicate tt (List.replicate pt.length 0)) (k:=tt) (by rw[aI];exact ak _);have el:us[tt]?=some (us[tt]'(by lia)):=af (by lia)
  obtain ⟨q,eq,Rq⟩:∃q,us[tt]?=some (V.ref q)/\cw K H2 q (jK mv tt st):=by
   obtain ⟨xs,ex,q,e,_,w⟩:=cv qu el;rw[ec] at ex;cases ex;rw[Lc D ls] at w;exact ⟨q,by rw[el,e],w⟩
  have ey:∃zs,us=zs++[V.ref q]:=by
   refine ⟨us.take tt,?_⟩;rw[<- take_snoc eq,aG (by lia)]
  obtain ⟨zs,rfl⟩:=ey
  have szp:∀y∈jK mv tt st,ug y:=λy hy=>by
   have:=(cf.state (k:=tt) (by rw[aI];exact ak _)).szn (x:=y);rw[Lc D ls] at this;exact this hy
  walk_at "w";refine cJ (bS.of gu) (zb _ _) ?_;walk_at "w";exact ⟨g,q,go,_,rfl,(Rg.same s1).same s2,Rq,by rw[lg,kE ls],by lia,sg,szp,λr H3 n3 s3 R3=>k r H3 ((s1.trans s2).none n3) ((s1.trans s2).trans s3) R3⟩
theorem Pt:bu ["row","many","wide"] ["row","many","wide"] (ax DC):=by walk_at "d"
theorem Qg (T:Txt K mg Z):cK P w K mg base gi 1 Z.JJ Z.JC ["row","many","wide"] (IZ K):=by
 refine T.MQ.ok Pt (λvs H Q E h=>?_) (λcdv A outer s H vs Q E hr h=>?_)
 ·obtain ⟨p,u,kk,w,rfl,_⟩:=h;rfl
 ·obtain ⟨p,u,kk,w,rfl,Rw,lw,uk,u1,k1,k⟩:=h;refine ⟨_,(az (aV (cC ["turn"] ["row","wide"] [0,2] (cu rfl T.range (aa (pv 1) ag)) (λ_=>(aN (i:=0) (show List.Nodup (α:=PySem.Str) ["turn","row","wide"] by decide +kernel))) (λ_=>cG) (λ_=>(BN (Lj K (by rfl)) (pv 1) (AY (bL dq (pv 0) (pv 2))) (AY (bL dq (bL eF (pv 0) aj) (pv 2)))))))),?_⟩;refine aS (σ:=[some (.ref p),some (.int u),some (.int kk)]) rfl ?_;obtain ⟨xs,gx,qx⟩:=id Rw;have lx:=qx.length;walk_at "w";refine ⟨by lia,by lia,?_⟩;refine fX (n:=u) (dF K H) (λt=>(w.drop (t*kk)).take kk) (by lia) (λa b=>a.same b) ?_ ?_
  ·rintro i Hb NY NN hi sa k2;have b1:i*kk+kk<=u*kk:=by rw[<- dI];exact aA _ hi
   walk_at "w";refine gL (E8 (by lia) (by lia)) ?_;walk_at "w";refine gL (JD (by lia) (by lia)) ?_;walk_at "w";rw[show ((i:Int)*(kk:Int))=((i*kk:Nat):Int) by lia,show (((i:Int)+1)*(kk:Int))=((i*kk:Nat):Int)+(kk:Int) by rw[Int.add_mul,Int.one_mul];lia];refine ⟨p,xs,rfl,bS.of (sa _ _ gx),λr hr=>?_⟩;rw[Ou (by lia)];have sn:=aE.new (o:=.lst ((xs.drop (i*kk)).take kk)) hr;exact k2 _ _ sn ⟨r,rfl,sa.none hr,_,aK,Paired.imp' (λ_ _ z=>(z.same sa).same sn) (vb (xl qx _) _)⟩
  rintro ys Hz t ht sz g pr nx;exact k t Hz ht sz ⟨ys,g,pr,nZ nx⟩
theorem ym:bu ["system","start","goal","steps","used","rows","answer","latest_first"] ["system","start","goal","steps"] (ax zM):=by walk_at "d"
theorem Oe (T:Txt K mg Z):cK P w K mg base gi 8 Z.Fi Z.E6 ["system","start","goal","steps"] (FT K Z.a_System):=by
 refine T.II.ok ym (λvs H Q E h=>?_) (λcdv A outer s H vs Q E hr h=>?_)
 ·obtain ⟨x,s,g,tt,a,c,D0,W0,E0,W1,H0,mv,pt,lk,st,go,rfl,_⟩:=h;rfl
 ·obtain ⟨x,s,g,tt,a,c,D0,W0,E0,W1,H0,mv,pt,lk,st,go,rfl,hT,S,D,SF,F,Rs,ls,Rg,lg,cf,sg,CF,k1,k2⟩:=h
  refine ⟨_,(ar (bp (i:=4) ym.nd rfl (Or.inl rfl) (bL lU (bD aZ (by rfl) T.len aP (aa (cP (BS T) hr T.vq T.rQ.kp T.xG (aa (pv 0) (aa (pv 3) ag))) ag)) aj))
   (ar (bp (i:=5) ym.nd rfl (Or.inl rfl) (cP (Od T) hr T.Jk T.IH.kp T.MK (aa (cP (EE T) hr T.yA T.vR.kp T.As (aa (pv 0) (aa (pv 4) ag))) ag)))
   (ar (bp (i:=6) ym.nd rfl (Or.inl rfl) (cP (BQ T) hr T.vo T.rO.kp T.xF (aa (pv 5) (aa (kF (pv 0) rfl) (aa (cP (Ib T) hr T.Cb T.Ad.kp T.D3 (aa (pv 0) (aa (pv 1) (aa (pv 2) (aa (pv 3) ag))))) ag)))))
   (ar (cO (bC fq (bw bY (pv 6) aj) sV (bK _)) (az (aV (cL (aa sV (aa (bw bY (pv 6) aj) ag))))) bT)
   (ar (bp (i:=7) ym.nd rfl (Or.inl rfl) (cP (Qg T) hr T.LV T.MQ.kp T.O4 (aa (bw bY (pv 6) aj) (aa (pv 4) (aa (kF (pv 0) rfl) ag)))))
   (az (aV (cL (aa sV (aa (bL kG (cP (vh T) hr T.pN T.ni.kp T.rM (aa (pv 0) (aa (bL lU (pv 3) (pv 4)) ag))) (HW K rfl T.list rfl T.reversed (aa (pv 7) ag))) ag)))))))))),?_⟩
  refine aS (σ:=[some (.ref x),some (.ref s),some (.ref g),some (.int tt),none,none,none,none]) rfl ?_;have d8:=D.n8;have i4:=D.i4;obtain ⟨dx,a',b',c',gx,_⟩:=id S;walk_at "w";refine ⟨x,a,c,tt,H0,mv,pt,lk,rfl,by lia,S,D,F,λr1 Rs1 H1 n1 s1 GL Gw ln hlast=>?_⟩;obtain ⟨us,gus,pus1⟩:=id GL;have lus:=pus1.length;have rne:=Gw.ne;have lpos:0 < Rs1.length:=List.length_pos_iff.mpr rne;walk_at "w";refine ⟨_,_,rfl,.inl (bS.of gus),?_⟩;rw[<- lus];obtain ⟨u,eu⟩:∃u,Rs1.length=u+1:=⟨Rs1.length - 1,by lia⟩;rw[eu];have eL:Rs1[u]?=some (Rs1[u]'(by lia)):=af (by lia);obtain ⟨R,eR⟩:∃R,Rs1[u]?=some R:=⟨_,eL⟩;obtain ⟨ps,RRu⟩:=Gw.rr u R eR;have ul:=Gw.len u R eR;have un:u<=mv.length:=by have:=RRu.le;have:=RRu.1;lia
  have uT:u<=tt:=by lia
  obtain ⟨psT,RRT⟩:∃ps,cD (kry mv pt tt) mv.length R ps:=by
   refine hlast R ?_ tt (by lia);rw[List.getLast?_eq_getElem?,eu];exact eR
  have CU:=Gw.cmu eR RRT;walk_at "w";rw[show ((((u+1:Nat):Int)) - 1)=(u:Int) by lia];refine ⟨x,u,a,c,H0,mv,pt,lk,rfl,un,S.same s1,D,F,λr2 us2 H2 n2 s2 g2 p2=>?_⟩;have s02:=s1.trans s2;have kl:=yI (mv:=mv) (pt:=pt) u;have kl2:u*pt.length<=8*4:=aJ (by lia) i4;walk_at "w";refine ⟨r2,us2,KH mv pt u,rfl,g2,p2,by rw[wO];lia,λr3 H9 H3 n3 s3 G3=>?_⟩;rw[wO] at G3;have s03:=s02.trans s3;walk_at "w";refine ⟨x,Z.a_System,dx,_,_,rfl,s03 _ _ gx,T.cl_System,T.na_states,xP,?_⟩;walk_at "w";refine ⟨x,s,g,tt,H0,mv,pt,lk,st,go,rfl,hT,S.same s03,D,SF,Rs.same s03,ls,Rg.same s03,lg,cf,sg,λr4 H4 n4 s4 R4=>?_⟩;have s04:=s03.trans s4;have lL:=GH (T:=tt) ls lg;have wk:=iI (mv:=mv) (pt:=pt) rfl D.pw u;have tk:=CF.tk u un;have up0:∀y,Tp D0 W0 y->Tp (D0*E0) (W0*E0+W1*D0+D0*E0) y:=λy h=>h.up E0 (by lia)
  have up1:∀y,Tp E0 W1 y->Tp (D0*E0) (W0*E0+W1*D0+D0*E0) y:=λy h=>by
   rw[b6 D0 E0];exact h.up D0 (by lia)
  have up2:∀y,y=0\/y=1->Tp (D0*E0) (W0*E0+W1*D0+D0*E0) y:=λy h=>by
   rcases h with rfl | rfl
   ·exact Tp.zero
   ·exact ⟨((D0*E0:Nat):Int),by rw[Rat.one_mul,aU],by rw[cg];lia⟩
  obtain ⟨wa,sw1⟩:=CF.join (rows:=cW (kry mv pt u) mv.length) (due:=gF mv tt st go) (n':=(kry mv pt u).length+1) (by rw[du];exact lL) (λys hy y hy'=>by
   obtain ⟨j,_,rfl⟩:=aH.mp hy;obtain ⟨zs,hz,rfl⟩:=aH.mp hy';exact up0 _ (mi (tk zs hz) j)) (λy hy=>up1 y (CF.tl y hy)) d8 (by rw[du];lia)
  obtain ⟨wb,sw2⟩:=CF.join (rows:=kry mv pt u++[gF mv tt st go]) (due:=List.replicate (kry mv pt u).length 0++[1]) (n':=mv.length+1) (by simp) (λys hy y hy'=>by
   rcases ay.mp hy with hy | hy
   ·exact up0 _ (tk ys hy y hy')
   ·rw[bN.mp hy] at hy';exact up1 _ (CF.tl y hy')) (λy hy=>by
   rcases ay.mp hy with hy | hy
   ·exact up2 _ (.inl (dB.mp hy).2)
   ·exact up2 _ (.inr (bN.mp hy))) d8 (AH _ _)
  walk_at "w";refine ⟨r3,r4,mv.length,wa,wb,H9,kry mv pt u,gF mv tt st go,rfl,G3.same s4,R4,lL,by lia,by lia,wk,sw1,sw2,⟨λt5 x5 R5 ps5 M5 H5 RR5 hn5 g5 n5 s5 R5' M50 M51 tp5=>?_,λt5 x5 R5 ps5 R6 ps6 M5 H5 RR5 hn5 RR6 hn6 g5 n5 s5 R5' M50 M51 tp5=>?_⟩⟩
  ·have s05:=s04.trans s5;have x50:=s04.none n5;have ew:=JP lL RR5 hn5;have CP:OF mv pt tt (gF mv tt st go) (BJ (gG R5 ps5 (kry mv pt u).length) tt u pt.length):=⟨u,R5,ps5,CU,RR5,hn5,rfl⟩;have lw:(gG R5 ps5 (kry mv pt u).length).length=(kry mv pt u).length:=lF;obtain ⟨q,q0,q1,q2⟩:=Pp wk lL (by lia) CF.d0 CF.e0 CF.w0 CF.w1 tk CF.tl RR5 hn5;generalize gG R5 ps5 (kry mv pt u).length=ws at ew lw q2 R5' tp5 CP;have lead:=Iz D ls lg uT lw ew;have lw2:ws.length=u*pt.length:=by rw[lw,kl]
   walk_at "w";rw[decide_eq_false (show ¬(Str.ofString "in"=Str.ofString "out") by decide)];walk_at "w";refine ⟨x,Z.a_System,dx,_,_,rfl,s05 _ _ gx,T.cl_System,T.na_ins,IS,?_⟩;walk_at "w";refine ⟨x5,u,pt.length,ws,rfl,R5',lw2,by lia,by lia,by lia,λr6 H6 n6 s6 G6=>?_⟩;have s06:=s05.trans s6;walk_at "w";rw[show ((tt:Int) - (u:Int))=((tt - u:Nat):Int) by lia];refine ⟨x,tt - u,H0,mv,pt,lk,rfl,by lia,S.same s06,D,λr7 H7 n7 s7 G7=>?_⟩;obtain ⟨vs,gv,qv,_⟩:=id (G6.same s7);have lv:=qv.length;have lc:(AR ws u pt.length).length=u:=by unfold AR;rw[ao,cE]
   unfold FA;walk_at "w";refine ⟨r6,vs,rfl,bS.of gv,by lia,λr8 H8 s8 n8 g8=>?_⟩;have s67:=s7.trans s8;obtain ⟨zs,gz,qz,_⟩:=id (G7.same s8);have lz:=qz.length;rw[aI] at lz;walk_at "w";refine kB gz g8 (bc (bF (by rw[nV];lia))) λr9 H9 s9 n9 g9=>?_
   have s09:=(s06.trans s67).trans s9;have qz0:Paired (dF K H H8) (List.replicate (tt - u) (List.replicate pt.length 0)) zs:=Paired.imp' (λ_ _ ⟨q,a,b,c⟩=>⟨q,a,s06.none b,c⟩) qz;have qv0:Paired (dF K H H8) (AR ws u pt.length).reverse vs.reverse:=BO (Paired.imp' (λ_ _ ⟨q,a,b,c⟩=>⟨q,a,s05.none b,cw.same c s8⟩) qv);have G9:bP K H H9 r9 (BJ ws tt u pt.length):=⟨_,g9,Paired.imp' (λ_ _ z=>dF.same z s9) (bW qz0 qv0),nZ ⟨H8,n9,bW qz0 qv0⟩⟩;walk_at "w";refine bZ λt10 H10 s10 g10=>?_
   exact k1 t10 r9 _ q H10 g10 ((s06.trans s67).none n9) (s09.trans s10) (G9.same s10) (Je uT) (OT lw2) lead CP q0 q1 (N2 Tp.zero q2)
  ·have s05:=s04.trans s5;have x50:=s04.none n5;have lw:(gG R6 ps6 mv.length).length=mv.length:=lF;obtain ⟨pr1,pr2⟩:=J9 wk lL RR6 hn6;obtain ⟨q,q0,q1,q2⟩:=LD wk lL (by lia) CF.d0 CF.e0 CF.w0 tk CF.tl RR6 hn6;walk_at "w";rw[decide_eq_true rfl];walk_at "w";refine bZ λt10 H10 s10 g10=>?_
   exact k2 t10 x5 _ q H10 g10 x50 (s05.trans s10) (R5'.same s10) lw (Kb D.pw RRu RRT lw pr2) pr1 ⟨u,R5,ps5,R6,ps6,CU,RR5,hn5,RR6,rfl⟩ q0 q1 q2
theorem sR:bu ["system","start","goal","most","prices","steps","answer"] ["system","start","goal","most"] (ax o6):=by walk_at "d"
theorem xU (T:Txt K mg Z):cK P w K mg base gi 9 Z.wQ Z.wB ["system","start","goal","most"] (FG K Z.a_System):=by
 refine T.sF.ok sR (λvs H Q E h=>?_) (λcdv A outer s H vs Q E hr h=>?_)
 ·obtain ⟨x,s,g,tt,a,c,H0,mv,pt,lk,st,go,rfl,_⟩:=h;rfl
 ·obtain ⟨x,s,g,tt,a,c,H0,mv,pt,lk,st,go,rfl,hT,S,D,SF,KF,Rs,ls,Rg,lg,SO,k⟩:=h
  refine ⟨_,(ar (bp (i:=4) sR.nd rfl (Or.inl rfl) (di ag))
   (ar (dR PassesOwn.never rfl (cu rfl T.range (aa (bL eF (pv 3) aj) ag)) (aN (i:=5) sR.nd)
    (ar (bp (i:=6) sR.nd rfl (Or.inl rfl) (cP (Oe T) hr T.Jl T.II.kp T.ML (aa (pv 0) (aa (pv 1) (aa (pv 2) (aa (pv 5) ag))))))
   (ar (cO (bC fq (bw bY (pv 6) aj) sV (bK _)) (az (aV (cL (aa (pv 5) (aa (bw bY (pv 6) aj) (aa (pv 4) ag)))))) bT)
   (az (ij (yt dc dm dk kd (pv 4) (aa (bw bY (pv 6) aj) ag)))))))
   (az (aV (cL (aa zQ (aa (di ag) (aa (pv 4) ag)))))))),?_⟩
  refine aS (σ:=[some (.ref x),some (.ref s),some (.ref g),some (.int tt),none,none,none]) rfl ?_;walk_at "w";refine cQ λpl H1 s1 n1 g1=>?_
  walk_at "w";refine ⟨by lia,by lia,?_⟩;rw[show ((tt:Int)+1).toNat=tt+1 by lia];refine eN (n:=tt+1) (λj σ' H'=>aE H H'/\∃us prs y1 y2,σ'=[some (.ref x),some (.ref s),some (.ref g),some (.int tt),some (.ref pl),y1,y2]/\H' pl=some (.lst us)/\Paired (dF K H H') prs us/\V.ref pl∉us/\prs.length=j/\∀i pr,prs[i]?=some pr->OB mv pt st go i pr) ⟨s1,[],[],_,_,rfl,g1,.nil,(λz=>nomatch z),rfl,(λi pr z=>by simp at z)⟩ ?_ ?_
  ·rintro j σ' H2 hj ⟨s2,us,prs,y1,y2,rfl,gp,pp,np,lp,hp⟩;have lu:=pp.length;obtain ⟨D0,W0,E0,W1,CT,hA,hB⟩:=SO j (by lia);walk_at "w";refine ⟨x,s,g,j,a,c,D0,W0,E0,W1,H0,mv,pt,lk,st,go,rfl,by lia,S.same s2,D,SF,KF,Rs.same s2,ls,Rg.same s2,lg,CT.cf,CT.sg,CT.co,⟨λt3 p3 pus q H3 g3 n3 s3 G3 l3 w3 st3 cp q0 q1 q2=>?_,λt3 p3 pr q H3 g3 n3 s3 R3 l3 w3 d3 cn q0 q1 q2=>?_⟩⟩
   ·walk_at "w";rw[decide_eq_true rfl];walk_at "w";refine bZ λt4 H4 s4 g4=>?_
    exact k (.int j) t4 p3 pl pus prs H2 H4 g4 s2 (s3.trans s4) n1 ⟨us,gp,pp,np⟩ n3 (G3.same s4) ⟨hp,.inl ⟨j,rfl,by lia,lp,hA pus q l3 w3 st3 cp q0 q1 q2⟩⟩
   ·have gp3:=s3 _ _ gp;have pn:p3≠pl:=λz=>by rw[z,gp] at n3;cases n3
    walk_at "w";rw[decide_eq_false (show ¬(Str.ofString "never"=Str.ofString "puts") by decide)];walk_at "w";refine ⟨.inl ⟨rfl,_,bS.of gp3⟩,?_⟩;walk_at "w";refine ja gp3 (bF (by lia)) ?_;refine ⟨(s2.trans s3).after n1,us++[.ref p3],prs++[pr],_,_,rfl,aK,bW (ve (λa x hx ⟨q',a1,a2,a3,a4,a5⟩=>⟨q',a1,a2,a3,by rw[bH λz=>np (by rw[<- z,<- a1];exact hx)];exact s3 _ _ a4,Paired.imp' (λ_ _ z=>(cx.same z s3).updL gp3) a5⟩) pp) (.cons ⟨p3,rfl,s2.none n3,?_⟩ .nil),λz=>?_,by rw[av,bB,lp],λi pr' hi=>?_⟩
    ·obtain ⟨a1,a2,a3⟩:=R3;exact ⟨a1,by rw[bH pn];exact a2,Paired.imp' (λ_ _ z=>z.updL gp3) a3⟩
    ·rcases ay.mp z with z | z
     ·exact np z
     ·rw[bN] at z;cases z;exact pn rfl
    ·rcases cN i prs.length with z | z
     ·rw[bA z] at hi;exact hp i pr' hi
     ·rw[ba z] at hi
      have:i - prs.length=0:=by
       rcases fh (i - prs.length) with e | e
       ·exact e
       ·rw[aR (by rw[bB];lia)] at hi;cases hi
      rw[this] at hi;cases hi;obtain rfl:i=j:=by lia
      exact hB pr q l3 w3 d3 cn q0 q1 q2
  ·rintro σ' H2 ⟨s2,us,prs,y1,y2,rfl,gp,pp,np,lp,hp⟩;walk_at "w";refine cQ λel H3 s3 n3 g3=>?_
   walk_at "w";refine bZ λt4 H4 s4 g4=>?_
   exact k .non t4 el pl [] prs H2 H4 g4 s2 (s3.trans s4) n1 ⟨us,gp,pp,np⟩ n3 ⟨_,s4 _ _ g3,.nil,λz=>nomatch z⟩ ⟨hp,.inr ⟨rfl,rfl,lp⟩⟩
theorem yn:bu ["_law_thing"] ["_law_thing"] (ax j7):=by walk_at "d"
theorem xo (T:Txt K mg Z):∀i:Nat,cK P w K mg base gi (0+i+1) Z.nM Z.nH ["_law_thing"] (IW K i)
| 0=>T.kj.ok yn (λvs H Q E h=>(show False from h).elim) (λcdv A outer s H vs Q E hr h=>(show False from h).elim)
| i+1=>by
 have AD:=xo T i;refine T.kj.ok yn (λvs H Q E h=>?_) (λcdv A outer s H vs Q E hr h=>?_)
 ·obtain ⟨x,rfl,_⟩:=h;rfl
 ·obtain ⟨x,rfl,h⟩:=h
  refine ⟨_,(ar (cO (fo (sW rfl T.isinstance PyProof.Rows.boot_list T.list (pv 0))) (az (aV (cC ["_law_one"] [] [] (cR (pv 0)) (λ_=>(aN (i:=0) (show List.Nodup (α:=PySem.Str) ["_law_one"] by decide +kernel))) (λ_=>cG) (λ_=>(AZ AD (hr.mono (by lia)) rfl T.oj T.kj.kp T.qN .nil DD (aa (pv 0) ag)))))) bT)
   (ar (cO (fo (sW rfl T.isinstance PyProof.Rows.boot_tuple T.tuple (pv 0))) (az (aV (d5 C8 (by rfl) T.tuple PyProof.Rows.boot_tuple (aa (cC ["_law_one"] [] [] (LH (pv 0)) (λ_=>(aN (i:=0) (show List.Nodup (α:=PySem.Str) ["_law_one"] by decide +kernel))) (λ_=>cG) (λ_=>(AZ AD (hr.mono (by lia)) rfl T.oj T.kj.kp T.qN .nil DD (aa (pv 0) ag)))) ag)))) bT)
   (az (aV (pv 0))))),?_⟩
  refine aS (σ:=[some x]) rfl ?_;rcases h with ⟨fx,k⟩ | ⟨hi,q,nq,k⟩ | ⟨hi,p,qs,rfl,Rp,l100,k⟩ | ⟨hi,p,H0,rs,rfl,Gp,l100,w100,k⟩ | ⟨hi,t,xs,H0,ds,rfl,st,pd,l10,hok,k⟩
  ·walk_at "w";cases x with
   | non =>
    refine .inl ⟨_,false,.non,rfl,?_⟩;walk_at "w";refine .inl ⟨_,false,.non,rfl,?_⟩;walk_at "w";exact k _ (aE.refl _)
   | bl v =>
    refine .inl ⟨_,false,.bl v,rfl,?_⟩;walk_at "w";refine .inl ⟨_,false,.bl v,rfl,?_⟩;walk_at "w";exact k _ (aE.refl _)
   | int v =>
    refine .inl ⟨_,false,.int v,rfl,?_⟩;walk_at "w";refine .inl ⟨_,false,.int v,rfl,?_⟩;walk_at "w";exact k _ (aE.refl _)
   | str v =>
    refine .inl ⟨_,false,.str v,rfl,?_⟩;walk_at "w";refine .inl ⟨_,false,.str v,rfl,?_⟩;walk_at "w";exact k _ (aE.refl _)
   | _=>exact absurd (show false=true from fx) bg
  ·obtain ⟨j,rfl⟩:∃j,i=j+1:=⟨i - 1,by lia⟩;obtain ⟨p,rfl,sq⟩:=id nq;walk_at "w";refine .inr ⟨p,_,false,rfl,sq,rfl,?_⟩;walk_at "w";refine .inr ⟨p,_,true,rfl,sq,rfl,?_⟩;walk_at "w";refine ⟨⟨_,sq⟩,?_⟩;refine DQ (K:=K) (as:=[(nm q).1,(nm q).2]) (F:=λ_ c x=>x=V.int c) (λ_ c x=>x=V.int c) id sq (.cons rfl (.cons rfl .nil)) (by simp) (λh _=>h) (λh _=>h) ?_ ?_
   ·rintro i2 c x H' NY NN ec s' rfl k1;walk_at "w";exact ⟨_,rfl,.inl ⟨rfl,λH2 s2=>k1 _ _ s2 rfl⟩⟩
   rintro ys H2 l hl s2 g2 pr _
   obtain rfl:ys=[V.int (nm q).1,V.int (nm q).2]:=by
    cases pr with
    | cons h1 t=>cases t with
     | cons h2 t'=>cases t';rw[h1,h2];rfl
   walk_at "w";refine ⟨l,_,rfl,.inl ⟨bS.of g2,λr hr=>?_⟩⟩;exact k r _ (s2.trans (aE.new hr)) ⟨r,rfl,lA.of aK⟩
  ·obtain ⟨j,rfl⟩:∃j,i=j+1:=⟨i - 1,by lia⟩;obtain ⟨xs,g,qx⟩:=id Rp;have lx:=qx.length;walk_at "w";refine .inl ⟨_,true,.lst g,rfl,?_⟩;walk_at "w";refine ⟨⟨_,bS.of g⟩,?_⟩;refine ff (K:=K) (as:=qs) (F:=cx K) (cx K) id g qx (by lia) (λh s=>h.same s) (λh s=>h.same s) ?_ ?_
   ·rintro i2 c x H' NY NN ec s' nc k1;walk_at "w";exact ⟨_,rfl,.inr (.inl ⟨by lia,c,nc,λr H2 s2 n2=>k1 _ _ s2 n2⟩)⟩
   rintro ys H2 l hl s2 g2 pr _;rw[jB] at pr;exact k l H2 hl s2 ⟨ys,g2,pr⟩
  ·obtain ⟨j,rfl⟩:∃j,i=j+1:=⟨i - 1,by lia⟩;obtain ⟨xs,g,qx,_⟩:=id Gp;have lx:=qx.length;walk_at "w";refine .inl ⟨_,true,.lst g,rfl,?_⟩;walk_at "w";refine ⟨⟨_,bS.of g⟩,?_⟩;refine ff (K:=K) (as:=rs) (F:=dF K H0) (dF K H) id g qx (by lia) (λh s=>h.same s) (λh s=>h.same s) ?_ ?_
   ·rintro i2 c x H' NY NN ec s' ⟨q,rfl,nq,Rq⟩ k1;walk_at "w";exact ⟨_,rfl,.inr (.inr (.inl ⟨by lia,q,c,rfl,Rq,w100 c (aw ec),λr H2 nr s2 R2=>k1 _ _ s2 ⟨r,rfl,s'.none nr,R2⟩⟩))⟩
   rintro ys H2 l hl s2 g2 pr nx;rw[jB] at pr nx;exact k l H2 hl s2 ⟨ys,g2,pr,nZ nx⟩
  ·obtain ⟨j,rfl⟩:∃j,i=j+1:=⟨i - 1,by lia⟩;walk_at "w";refine .inr ⟨t,_,false,rfl,st,rfl,?_⟩;walk_at "w";refine .inr ⟨t,_,true,rfl,st,rfl,?_⟩;walk_at "w";refine ⟨⟨_,st⟩,?_⟩;refine DQ (K:=K) (as:=ds) (F:=CB K H0) (CB K H) id st pd (by lia) (λh s=>h.same s) (λh s=>h.same s) ?_ ?_
   ·rintro i2 c x H' NY NN ec s' ec' k1;have ok:=hok c (aw ec);walk_at "w";cases c with
    | fl v =>
     obtain rfl:x=v:=ec';exact ⟨_,rfl,.inl ⟨ok,λH2 s2=>k1 _ _ s2 rfl⟩⟩
    | row qs =>
     obtain ⟨p,rfl,np,Rp⟩:=ec';exact ⟨_,rfl,.inr (.inr (.inl ⟨by lia,p,qs,rfl,Rp,ok,λr H2 nr s2 R2=>k1 _ _ s2 ⟨r,rfl,s'.none nr,R2⟩⟩))⟩
    | grid rs =>
     obtain ⟨p,rfl,np,Gp⟩:=ec';exact ⟨_,rfl,.inr (.inr (.inr (.inl ⟨by lia,p,H0,rs,rfl,Gp,ok.1,ok.2,λr H2 nr s2 G2=>k1 _ _ s2 ⟨r,rfl,s'.none nr,G2.weak s'⟩⟩)))⟩
   rintro ys H2 l hl s2 g2 pr _;rw[jB] at pr;have ly:=pr.length;walk_at "w";refine ⟨l,_,rfl,.inl ⟨bS.of g2,λr hr=>?_⟩⟩;exact k r ys _ (s2.trans (aE.new hr)) aK (Paired.imp' (λ_ _ z=>CB.same z (aE.new hr)) pr)
theorem EL (T:Txt K mg Z):cK P w K mg base gi 6 Z.nM Z.nH ["_law_thing"] (IW K 5):=xo T 5
theorem rC:bu ["_law_thing","_law_one"] ["_law_thing"] (ax iU):=by walk_at "d"
theorem vg (T:Txt K mg Z):∀i:Nat,cK P w K mg base gi (0+i+1) Z.kR Z.kN ["_law_thing"] (Dn K i)
| 0=>T.kZ.ok rC (λvs H Q E h=>(show False from h).elim) (λcdv A outer s H vs Q E hr h=>(show False from h).elim)
| i+1=>by
 have Fm:=vg T i;refine T.kZ.ok rC (λvs H Q E h=>?_) (λcdv A outer s H vs Q E hr h=>?_)
 ·obtain ⟨x,rfl,_⟩:=h;rfl
 ·obtain ⟨x,rfl,h⟩:=h
  refine ⟨_,(ar (cO (fo (bD KE (by rfl) T.isinstance PyProof.Rows.boot_isinstance (aa (pv 0) (aa (cL (aa (A0 (v:=.ty "list") rfl T.list PyProof.Rows.boot_list rfl) (aa (A0 (v:=.ty "tuple") rfl T.tuple PyProof.Rows.boot_tuple rfl) ag))) ag)))) (az (dR PassesOwn.never rfl (Qa (pv 0)) (aN (i:=1) rC.nd)
    (az (ij (AZ Fm (hr.mono (by lia)) rfl T.rJ T.kZ.kp T.tT .nil DD (aa (pv 1) ag)))))) bT)
   (az (cO (fo (sW rfl T.isinstance PyProof.Rows.boot_list T.list (pv 0))) (az (ij (yt dc dm dk kd (pv 0) (aa (cL (aa aj (aa aj ag))) ag)))) bT))),?_⟩
  refine aS (σ:=[some x,none]) rfl ?_;walk_at "w";refine bZ λtp H1 s1 g1=>?_
  rcases h with ⟨fx,k⟩ | ⟨hi,n,nq,k⟩ | ⟨hi,p,zs,rfl,gp,l500,hz,k⟩ | ⟨hi,p,us,rfl,gp,l100,pu,hu,k⟩ | ⟨hi,t,xs,ews,rfl,st,pd,l10,hok,dj,k⟩
  ·walk_at "w";cases x with
   | non =>
    refine ⟨_,tp,rfl,g1,.inl ⟨_,false,.non,rfl,?_⟩⟩;walk_at "w";refine .inl ⟨_,false,.non,rfl,?_⟩;walk_at "w";exact k _ s1
   | bl v =>
    refine ⟨_,tp,rfl,g1,.inl ⟨_,false,.bl v,rfl,?_⟩⟩;walk_at "w";refine .inl ⟨_,false,.bl v,rfl,?_⟩;walk_at "w";exact k _ s1
   | int v =>
    refine ⟨_,tp,rfl,g1,.inl ⟨_,false,.int v,rfl,?_⟩⟩;walk_at "w";refine .inl ⟨_,false,.int v,rfl,?_⟩;walk_at "w";exact k _ s1
   | str v =>
    refine ⟨_,tp,rfl,g1,.inl ⟨_,false,.str v,rfl,?_⟩⟩;walk_at "w";refine .inl ⟨_,false,.str v,rfl,?_⟩;walk_at "w";exact k _ s1
   | _=>exact absurd (show false=true from fx) bg
  ·obtain ⟨j,rfl⟩:∃j,i=j+1:=⟨i - 1,by lia⟩;obtain ⟨p,rfl,sq⟩:=id nq;have sq1:=s1.sqt sq;walk_at "w";refine ⟨_,tp,rfl,g1,.inr ⟨p,_,rfl,sq1,?_⟩⟩;walk_at "w";unfold Mc;walk_at "w";refine .inr ⟨⟨_,sq1⟩,?_⟩;refine EX (K:=K) (a:=p) (xs:=[V.int n.1,V.int n.2]) (λi σ' H'=>aE H1 H'/\∃y,σ'=[some (.ref p),y]) ⟨aE.refl _,_,rfl⟩ (λi σ' H' _ ⟨s,_⟩=>s.sqt sq1) ?_ ?_
   ·rintro i2 x σ' H2 hx ⟨s2,y,rfl⟩;have hm:=aw hx
    have fx:p7 x=true:=by
     simp only[aD,aO,or_false] at hm;rcases hm with rfl | rfl <;> rfl
    walk_at "w";exact ⟨_,rfl,.inl ⟨fx,λH3 s3=>⟨s2.trans s3,_,rfl⟩⟩⟩
   rintro σ' H2 ⟨s2,y,rfl⟩;walk_at "w";refine .inr ⟨p,_,false,rfl,s2.sqt sq1,rfl,?_⟩;walk_at "w";exact k _ (s1.trans s2)
  ·obtain ⟨j,rfl⟩:∃j,i=j+1:=⟨i - 1,by lia⟩;have gp1:=s1 _ _ gp;walk_at "w";refine ⟨_,tp,rfl,g1,.inl ⟨_,true,.lst gp1,rfl,?_⟩⟩;walk_at "w";unfold Mc;walk_at "w";refine .inl ⟨⟨_,bS.of gp1⟩,?_⟩;refine fW (K:=K) (a:=p) (xs:=zs) (λi σ' H'=>aE H1 H'/\∃y,σ'=[some (.ref p),y]) ⟨aE.refl _,_,rfl⟩ (λi σ' H' _ ⟨s,_⟩=>bS.of (s _ _ gp1)) ?_ ?_
   ·rintro i2 x σ' H2 hx ⟨s2,y,rfl⟩;obtain ⟨n,nx⟩:=hz x (aw hx);walk_at "w";exact ⟨_,rfl,.inr (.inl ⟨by lia,n,(s1.trans s2).num nx,λH3 s3=>⟨s2.trans s3,_,rfl⟩⟩)⟩
   rintro σ' H2 ⟨s2,y,rfl⟩;have gp2:=s2 _ _ gp1;walk_at "w";refine .inl ⟨_,true,.lst gp2,rfl,?_⟩;walk_at "w";refine ⟨.inl ⟨rfl,_,bS.of gp2⟩,?_⟩;walk_at "w";refine bZ λt7 H3 s3 g3=>?_
   walk_at "w";have gp3:=s3 _ _ gp2;refine ja gp3 (bF (by lia)) ?_;walk_at "w";exact k t7 _ ((Kp.of ((s1.trans s2).trans s3)).trans (Kp.upd gp3 rfl)) (by rw[bH λz=>by rw[z,gp3] at g3;cases g3];exact g3) aK
  ·obtain ⟨j,rfl⟩:∃j,i=j+1:=⟨i - 1,by lia⟩;have gp1:=s1 _ _ gp;walk_at "w";refine ⟨_,tp,rfl,g1,.inl ⟨_,true,.lst gp1,rfl,?_⟩⟩;walk_at "w";unfold Mc;walk_at "w";refine .inl ⟨⟨_,bS.of gp1⟩,?_⟩;refine fW (K:=K) (a:=p) (xs:=us) (λi σ' H'=>Kp (λa=>V.ref a∈us) H H'/\H' p=some (.lst us)/\(∀y∈us,∃q zs,y=.ref q/\H' q=some (.lst zs)/\zs.length<=100+i/\∀z∈zs,∃n,zj K H' z n)/\∃y,σ'=[some (.ref p),y]) ⟨.of s1,gp1,λy hy=>?_,_,rfl⟩ (λi σ' H' _ ⟨_,g,_⟩=>bS.of g) ?_ ?_
   ·obtain ⟨q,zs,a1,a2,a3,a4⟩:=hu y hy;exact ⟨q,zs,a1,s1 _ _ a2,a3,λz hz=>by obtain ⟨n,hn⟩:=a4 z hz;exact ⟨n,s1.num hn⟩⟩
   ·rintro i2 x σ' H2 hx ⟨k2,g2,hu2,y,rfl⟩;have mx:=aw hx;have hi2:i2 < us.length:=(aB.mp hx).1;obtain ⟨q,zs,rfl,gq,lz,hz⟩:=hu2 x mx;have qp:p≠q:=λz=>pu (by rw[z];exact mx)
    walk_at "w";refine ⟨_,rfl,.inr (.inr (.inl ⟨by lia,q,zs,rfl,gq,by lia,hz,λt7 H3 k3 g7 gq3=>?_⟩))⟩;refine ⟨k2.trans (k3.mono λa e=>by rw[e];exact mx),k3 _ _ g2 (.inl qp),λy' hy'=>?_,_,rfl⟩;obtain ⟨q',zs',rfl,gq',lz',hz'⟩:=hu2 y' hy';by_cases e:q'=q
    ·subst e;refine ⟨q',_,rfl,gq3,by rw[av,bB];rw[gq] at gq';cases gq';lia,λz mz=>?_⟩;rcases ay.mp mz with mz | mz
     ·obtain ⟨n,hn⟩:=hz z mz;exact ⟨n,k3.numR hn⟩
     ·rw[bN.mp mz];exact ⟨(7,1),t7,rfl,lA.of g7⟩
    ·exact ⟨q',zs',rfl,k3 _ _ gq' (.inl e),by lia,λz mz=>by obtain ⟨n,hn⟩:=hz' z mz;exact ⟨n,k3.numR hn⟩⟩
   rintro σ' H2 ⟨k2,gp2,_,y,rfl⟩;walk_at "w";refine .inl ⟨_,true,.lst gp2,rfl,?_⟩;walk_at "w";refine ⟨.inl ⟨rfl,_,bS.of gp2⟩,?_⟩;walk_at "w";refine bZ λt7 H3 s3 g3=>?_
   walk_at "w";have gp3:=s3 _ _ gp2;refine ja gp3 (bF (by lia)) ?_;walk_at "w";exact k _ (((k2.mono λa e=>.inr e).trans (Kp.of s3)).trans (Kp.upd gp3 (.inl rfl)))
  ·obtain ⟨j,rfl⟩:∃j,i=j+1:=⟨i - 1,by lia⟩;have st1:=s1.sqt st;have lx:=pd.length;walk_at "w";refine ⟨_,tp,rfl,g1,.inr ⟨t,_,rfl,st1,?_⟩⟩;walk_at "w";unfold Mc;walk_at "w";refine .inr ⟨⟨_,st1⟩,?_⟩;refine EX (K:=K) (a:=t) (xs:=xs) (λi σ' H'=>Kp (λa=>∃e∈ews,e.2 a) H H'/\(∀m e v,i<=m->ews[m]?=some e->xs[m]?=some v->QL K e.2 H' e.1 v)/\∃y,σ'=[some (.ref t),y]) ⟨.of s1,λm e v _ he hv=>?_,_,rfl⟩ (λi σ' H' _ ⟨k2,_⟩=>k2.sqt st) ?_ ?_
   ·obtain ⟨e',he',el⟩:=cv pd hv;rw[he] at he';cases he';exact el.kp (S:=λ_=>False) (.of s1) (λ_ _ z=>z)
   ·rintro i2 x σ' H2 hx ⟨k2,hel,y,rfl⟩;obtain ⟨e,he,_⟩:=cv pd hx;have el:=hel i2 e x (ak _) he hx;have me:=aw he;have ok:=hok e me;have nxt:∀H3,Kp e.2 H2 H3->∀m e' v,i2+1<=m->ews[m]?=some e'->xs[m]?=some v->QL K e'.2 H3 e'.1 v:=λH3 k3 m e' v hm he' hv=>(hel m e' v (by lia) he' hv).kp k3 λa h1 h2=>dj i2 m e e' (by lia) he he' a h1 h2
    have upk:∀H3,Kp e.2 H2 H3->Kp (λa=>∃e∈ews,e.2 a) H H3:=λH3 k3=>k2.trans (k3.mono λa h=>⟨e,me,h⟩)
    walk_at "w";obtain ⟨d,W⟩:=e;cases d with
    | fl v =>
     obtain rfl:x=v:=el;exact ⟨_,rfl,.inl ⟨ok,λH3 s3=>⟨upk H3 (.of s3),nxt H3 (.of s3),_,rfl⟩⟩⟩
    | row qs =>
     obtain ⟨p,rfl,wp,zs,gz,qz⟩:=el;have lz:=qz.length;have ok:qs.length<=100:=ok;refine ⟨_,rfl,.inr (.inr (.inl ⟨by lia,p,zs,rfl,gz,by lia,λz mz=>?_,λt7 H3 k3 _ _=>?_⟩))⟩
     ·obtain ⟨c,_,nc⟩:=cM qz mz;exact ⟨_,nc⟩
     ·have k3':Kp W H2 H3:=k3.mono λa e=>by rw[e];exact wp
      exact ⟨upk H3 k3',nxt H3 k3',_,rfl⟩
    | grid rs =>
     obtain ⟨p,us,rfl,wp,gu,nu,qu⟩:=el;have lu:=qu.length;have ok1:rs.length<=100:=ok.1;refine ⟨_,rfl,.inr (.inr (.inr (.inl ⟨by lia,p,us,rfl,gu,by lia,nu,λy my=>?_,λH3 k3=>?_⟩)))⟩
     ·obtain ⟨qs,mq,q,rfl,_,zs,gz,qz⟩:=cM qu my;have lz:=qz.length;have:=ok.2 qs mq;exact ⟨q,zs,rfl,gz,by lia,λz mz=>by obtain ⟨c,_,nc⟩:=cM qz mz;exact ⟨_,nc⟩⟩
     ·have k3':Kp W H2 H3:=k3.mono λa e=>by
       rcases e with e | e
       ·rw[e];exact wp
       ·obtain ⟨qs,_,q,eq,wq,_⟩:=cM qu e;cases eq;exact wq
      exact ⟨upk H3 k3',nxt H3 k3',_,rfl⟩
   rintro σ' H2 ⟨k2,_,y,rfl⟩;walk_at "w";refine .inr ⟨t,_,false,rfl,k2.sqt st,rfl,?_⟩;walk_at "w";exact k _ k2
theorem CZ (T:Txt K mg Z):cK P w K mg base gi 6 Z.kR Z.kN ["_law_thing"] (Dn K 5):=vg T 5
theorem pV:bu ["_law_thing","_law_part"] ["_law_thing"] (ax fb):=by walk_at "d"
theorem yx (T:Txt K mg Z):cK P w K mg base gi 2 Z.jm Z.jg ["_law_thing"] (JY K):=by
 refine T.md.ok pV (λvs H Q E h=>?_) (λcdv A outer s H vs Q E hr h=>?_)
 ·obtain ⟨x,n,rfl,_⟩:=h;rfl
 ·obtain ⟨x,n,rfl,⟨p,rfl,hp⟩,hn,k⟩:=h
  refine ⟨_,(ar (cO (PW.pt (lB (ib (fo (sW rfl T.isinstance PyProof.Rows.boot_tuple T.tuple (pv 0)))) (kC (bC vf (bD aZ (by rfl) T.len aP (aa (pv 0) ag)) aj (bK _))))) (az (aV pH)) bT)
   (ar (dR PassesOwn.never rfl (LH (pv 0)) (aN (i:=1) pV.nd)
    (az (cO (PW.pt (lB (ib (fo (sW rfl T.isinstance PyProof.Rows.boot_int T.int (pv 1)))) (kC (fo (sW rfl T.isinstance PyProof.Rows.boot_bool T.bool (pv 1)))))) (az (aV pH)) bT)))
   (az (aV (HX (jC xn (bw bY (pv 0) aj) aj (bK _)) (HU (jC (EA (Ip hr)) (cP (ka T) hr T.iH T.iL.kp T.jN (aa (bw bY (pv 0) aj) (aa (bw bY (pv 0) aj) ag))) (pv 0) (bK _)))))))),?_⟩
  refine aS (σ:=[some (.ref p),none]) rfl ?_;obtain ⟨hb,hg,_,hs⟩:=hn;walk_at "w";refine .inr ⟨p,_,_,rfl,hp,rfl,?_⟩;walk_at "w";refine ⟨_,_,rfl,.inr hp,?_⟩;walk_at "w"
  try refine Ku ?_
  walk_at "w";refine ⟨⟨_,hp⟩,?_⟩;refine EX (K:=K) (a:=p) (xs:=[.int n.1,.int n.2]) (λi σ' H'=>H'=H/\∃x,σ'=[some (.ref p),x]) ⟨rfl,none,rfl⟩ (λi σ' H' _ ⟨e,_⟩=>by subst e;exact hp) ?_ ?_
  ·rintro i x σ' H' hx ⟨rfl,y,rfl⟩
   obtain ⟨z,rfl⟩:∃z,x=V.int z:=by
    have hm:x∈[V.int n.1,V.int n.2]:=aw hx;simp only[aD,aO,or_false] at hm;rcases hm with e | e
    ·exact ⟨_,e⟩
    ·exact ⟨_,e⟩
   walk_at "w";refine .inl ⟨_,_,.int z,rfl,?_⟩;walk_at "w";refine .inl ⟨_,_,.int z,rfl,?_⟩;walk_at "w";exact ⟨rfl,_,rfl⟩
  ·rintro σ' H' ⟨rfl,x,rfl⟩;walk_at "w";rw[decide_eq_true hb];walk_at "w";refine ⟨n.1,n.2,rfl,hb,hs.mono (by decide),λr H' s1 h'=>?_⟩;obtain ⟨e1,e2⟩:=Ql hb hg;walk_at "w";refine ⟨_,_,RS,(lo n.1 n.2,hi n.1 n.2),n,by decide,⟨r,rfl,lA.of h'⟩,⟨p,rfl,s1.sqt hp⟩,?_⟩;rw[e1,e2,decide_eq_true rfl];exact k _ s1
theorem BF:bu ["_law_thing","_law_many"] ["_law_thing","_law_many"] (ax h9):=by walk_at "d"
theorem vm (T:Txt K mg Z):cK P w K mg base gi 3 Z.mZ Z.mL ["_law_thing","_law_many"] (zH K):=by
 refine T.nk.ok BF (λvs H Q E h=>?_) (λcdv A outer s H vs Q E hr h=>?_)
 ·obtain ⟨p,ns,rfl,_⟩:=h;rfl
 ·obtain ⟨p,ns,rfl,hp,hl,hn,k⟩:=h
  refine ⟨_,(ar (cO (PW.pt (lB (ib (fo (rD rfl T.isinstance PyProof.Rows.boot_list T.list (pv 0)))) (kC (bC vf (bD aZ (by rfl) T.len aP (aa (pv 0) ag)) (pv 1) (bK _))))) (az (aV pH)) bT)
   (az (aV (bD (yS rfl) (by rfl) T.all PyProof.Rows.boot_all (aa (cC ["_law_one"] [] [] (cR (pv 0)) (λ_=>(aN (i:=0) (show List.Nodup (α:=PySem.Str) ["_law_one"] by decide +kernel))) (λ_=>cG) (λ_=>(cP (yx T) hr T.p5 T.md.kp T.sD (aa (pv 0) ag)))) ag))))),?_⟩
  refine aS (σ:=[some (.ref p),some (.int ns.length)]) rfl ?_;obtain ⟨xs,gx,qx⟩:=id hp;have lx:=qx.length;walk_at "w";refine ⟨_,_,.lst gx,rfl,?_⟩;walk_at "w";refine ⟨_,_,rfl,.inl (bS.of gx),?_⟩;walk_at "w";rw[show ((xs.length:Nat):Int)=(ns.length:Nat) by rw[lx],decide_eq_true rfl];walk_at "w";refine ⟨⟨_,bS.of gx⟩,?_⟩;refine fY (K:=K) (xs:=xs) (λi ys H'=>aE H H'/\ys=List.replicate i (.bl true)) (bc (bF (by lia))) ⟨aE.refl _,rfl⟩ (λi ys H' _ ⟨s,_⟩=>bS.of (s _ _ gx)) ?_ ?_
  ·rintro i x ys H' hx hlen ⟨s,rfl⟩;obtain ⟨n,en,z⟩:=cv qx hx;walk_at "w";exact ⟨x,n,rfl,s.num z,hn n (aw en),λH2 s2=>⟨s.trans s2,by rw[uM]⟩⟩
  ·rintro ys H' hy ⟨s,rfl⟩ l hl';walk_at "w";refine ⟨l,List.replicate xs.length true,rfl,bS.of (by rw[aK];simp),?_⟩;have e4:(List.replicate xs.length true).all id=true:=by simp
   rw[e4];exact k _ (s.trans (aE.new hl'))
theorem AM:bu ["_law_thing","_law_many","_law_wide"] ["_law_thing","_law_many","_law_wide"] (ax fU):=by walk_at "d"
theorem AN (T:Txt K mg Z):cK P w K mg base gi 4 Z.kS Z.kO ["_law_thing","_law_many","_law_wide"] (Bw K):=by
 refine T.pQ.ok AM (λvs H Q E h=>?_) (λcdv A outer s H vs Q E hr h=>?_)
 ·obtain ⟨p,rows,m,rfl,_⟩:=h;rfl
 ·obtain ⟨p,rows,m,rfl,hp,hl,hm,hn,k⟩:=h
  refine ⟨_,(ar (cO (PW.pt (lB (ib (fo (rD rfl T.isinstance PyProof.Rows.boot_list T.list (pv 0)))) (kC (bC vf (bD aZ (by rfl) T.len aP (aa (pv 0) ag)) (pv 1) (bK _))))) (az (aV pH)) bT)
   (az (aV (bD (yS rfl) (by rfl) T.all PyProof.Rows.boot_all (aa (cC ["_law_row_here"] ["_law_wide"] [2] (cR (pv 0)) (λ_=>(aN (i:=0) (show List.Nodup (α:=PySem.Str) ["_law_row_here","_law_wide"] by decide +kernel))) (λ_=>cG) (λ_=>(cP (vm T) hr T.pP T.nk.kp T.rN (aa (pv 0) (aa (pv 1) ag))))) ag))))),?_⟩
  refine aS (σ:=[some (.ref p),some (.int rows.length),some (.int m)]) rfl ?_;obtain ⟨xs,gx,qx⟩:=id hp;have lx:=qx.length;walk_at "w";refine ⟨_,_,.lst gx,rfl,?_⟩;walk_at "w";refine ⟨_,_,rfl,.inl (bS.of gx),?_⟩;walk_at "w";rw[show ((xs.length:Nat):Int)=(rows.length:Nat) by rw[lx],decide_eq_true rfl];walk_at "w";refine ⟨⟨_,bS.of gx⟩,?_⟩;refine fY (K:=K) (xs:=xs) (λi ys H'=>aE H H'/\ys=List.replicate i (.bl true)) (bc (bF (by lia))) ⟨aE.refl _,rfl⟩ (λi ys H' _ ⟨s,_⟩=>bS.of (s _ _ gx)) ?_ ?_
  ·rintro i x ys H' hx hlen ⟨s,rfl⟩;obtain ⟨ns,en,q,rfl,z⟩:=cv qx hx;obtain ⟨e1,e2⟩:=hn ns (aw en);walk_at "w";exact ⟨q,ns,by rw[e1],z.same s,by lia,e2,λH2 s2=>⟨s.trans s2,by rw[uM]⟩⟩
  ·rintro ys H' hy ⟨s,rfl⟩ l hl';walk_at "w";refine ⟨l,List.replicate xs.length true,rfl,bS.of (by rw[aK];simp),?_⟩;have e4:(List.replicate xs.length true).all id=true:=by simp
   rw[e4];exact k _ (s.trans (aE.new hl'))
theorem CS:bu ["_law_parts_here","_law_start","_law_goal_here","_law_steps_here","_law_puts_here"] ["_law_parts_here","_law_start","_law_goal_here","_law_steps_here","_law_puts_here"] (ax iZ):=by walk_at "d"
theorem C4 (T:Txt K mg Z):cK P w K mg base gi 7 Z.oT Z.oE ["_law_parts_here","_law_start","_law_goal_here","_law_steps_here","_law_puts_here"] (Dv K):=by
 refine T.uy.ok CS (λvs H Q E h=>?_) (λcdv A outer s H vs Q E hr h=>?_)
 ·obtain ⟨r,s,g0,p0,tt,H0,H1,mv,pt,lk,pus,st,go,rfl,_⟩:=h;rfl
 ·obtain ⟨r,s,g0,p0,tt,H0,H1,mv,pt,lk,pus,st,go,rfl,hT,PQ,D,Rs,ls,Rg,Gp,lp,wp,EF,est,k⟩:=h
  refine ⟨_,(ar (cO (ib (fo (cP (AN T) hr T.uG T.pQ.kp T.vL (aa (pv 4) (aa (pv 3) (aa (bD aZ (by rfl) T.len aP (aa (bw bY (pv 0) aj) ag)) ag)))))) (az (aV pH)) bT)
   (az (aV (jC (EA (Ip hr)) (cP (Al T) hr T.vB T.uA.kp T.ye (aa (pv 0) (aa (pv 1) (aa (pv 4) ag)))) (pv 2) (bK _))))),?_⟩
  refine aS (σ:=[some (.ref r),some (.ref s),some (.ref g0),some (.int tt),some (.ref p0)]) rfl ?_;have i4:=D.i4;obtain ⟨m,p,l,g,n1,n2,n3,Gm,Gpt,Gl⟩:=id PQ;obtain ⟨up,gp,qp,_⟩:=id Gpt;have lup:=qp.length;have lm1:(pus.map (List.map nm)).length=tt:=by rw[ao];exact lp
  walk_at "w";refine ⟨_,_,rfl,.inl (bS.of gp),?_⟩;rw[<- lup];walk_at "w";refine ⟨p0,_,pt.length,by rw[lm1],Gp.gridK,by rw[lm1];lia,by lia,λns' hx=>?_,λH2 s2=>?_⟩
  ·obtain ⟨xs,mx,rfl⟩:=aH.mp hx;refine ⟨by rw[ao];exact wp xs mx,λv hv=>?_⟩;obtain ⟨v,mv',rfl⟩:=aH.mp hv;exact K9 (EF.sznP xs mx v mv')
  walk_at "w";refine ⟨r,s,p0,H0,H1,mv,pt,lk,pus,st,rfl,PQ.same s2,D,Rs.same s2,ls,Gp.same s2,by lia,wp,EF,λt3 H3 n3' s3 R3=>?_⟩;rw[lp,est] at R3;walk_at "w";refine ⟨_,_,L7,go,go,by decide,R3.kind,((Rg.same s2).same s3).kind,?_⟩;rw[decide_eq_true rfl];exact k _ (s2.trans s3)
theorem gU:bu ["_law_parts_here","_law_steps_here","_law_rows","_law_some","_law_turn"] ["_law_parts_here","_law_steps_here"] (ax i8):=by walk_at "d"
theorem C6 (T:Txt K mg Z):cK P w K mg base gi 5 Z.oV Z.oG ["_law_parts_here","_law_steps_here"] (DA K):=by
 refine T.uC.ok gU (λvs H Q E h=>?_) (λcdv A outer s H vs Q E hr h=>?_)
 ·obtain ⟨r,tt,H0,mv,pt,lk,rfl,_⟩:=h;rfl
 ·obtain ⟨r,tt,H0,mv,pt,lk,rfl,hT,PQ,D,AF,k⟩:=h
  refine ⟨_,(ar (pY 2 ["_law_row_here"] [] [] gU.nd rfl rfl (cR (bw bY (pv 0) aj)) (λ_=>(aN (i:=0) (show List.Nodup (α:=PySem.Str) ["_law_row_here"] by decide +kernel))) (λ_=>cG) (λ_=>(d5 (fL K (by rfl)) (by rfl) T.list PyProof.Rows.boot_list (aa (pv 0) ag))))
   (ar (bp (i:=3) gU.nd rfl (Or.inl rfl) (di ag))
   (ar (dR PassesOwn.never rfl (cu rfl T.range (aa (pv 1) ag)) (aN (i:=4) gU.nd)
    (ar (bp (i:=3) gU.nd rfl (Or.inl rfl) (bL kG (pv 3) (pv 2)))
   (az (pY 2 ["_law_row_here"] ["_law_parts_here"] [0] gU.nd rfl rfl (cR (pv 2)) (λ_=>(aN (i:=0) (show List.Nodup (α:=PySem.Str) ["_law_row_here","_law_parts_here"] by decide +kernel))) (λ_=>cG) (λ_=>(cP (xW T) hr T.tu T.sH.kp T.wN (aa (bw (tz K (by rfl)) (pv 1) aj) (aa (pv 0) ag))))))))
   (az (aV (pv 3)))))),?_⟩
  refine aS (σ:=[some (.ref r),some (.int tt),none,none,none]) rfl ?_;have d1:=D.n8;have i4:=D.i4;obtain ⟨m,p,l,g,n1,n2,n3,Gm,Gp,Gl⟩:=id PQ;obtain ⟨up,gp,qp,_⟩:=id Gp;have lup:=qp.length;walk_at "w";refine ⟨⟨_,bS.of gp⟩,?_⟩;refine ff (K:=K) (F:=dF K H0) (dF K H) id gp qp (by lia) (λa b=>a.same b) (λa b=>a.same b) ?_ ?_
  ·rintro i ns x H' NY NN en s ⟨u,rfl,_,zs,gz,qz⟩ k1;walk_at "w";refine ⟨u,zs,rfl,.inl (bS.of gz),λl1 hl1=>?_⟩;exact k1 _ _ (aE.new hl1) ⟨l1,rfl,s.none hl1,zs,aK,Paired.imp' (λ_ _ z=>z.same (aE.new hl1)) qz⟩
  rintro ys1 H1 rq1 hr1 s1 g1 pr1 nx1;rw[jB] at pr1 nx1;have G1:bP K H H1 rq1 pt:=⟨ys1,g1,pr1,nZ nx1⟩;walk_at "w";refine cQ λsm0 H2 s2 nf gf=>?_
  have s02:=s1.trans s2;walk_at "w";refine ⟨by lia,by lia,?_⟩;refine eN (n:=tt) (λt σ' H'=>aE H H'/\∃rq sm y,σ'=[some (.ref r),some (.int tt),some (.ref rq),some (.ref sm),y]/\H sm=none/\bP K H H' sm (kry mv pt t)/\bP K H H' rq (pt.map (jK mv t))) ⟨s02,rq1,sm0,_,rfl,s1.none nf,⟨[],gf,.nil,λz=>nomatch z⟩,by rw[show pt.map (jK mv 0)=pt from jB pt];exact G1.same s2⟩ ?_ ?_
  ·rintro t σ' H' ht ⟨s',rq,sm,y,rfl,nsm,Gs,Gq⟩;obtain ⟨us,gu,pu,_⟩:=id Gs;obtain ⟨zs,gz,qz,_⟩:=id Gq;have lz:=qz.length;rw[ao] at lz;have lu:=pu.length;rw[yI] at lu;have lb:t*pt.length<=20*4:=aJ (by lia) i4;walk_at "w";refine kB gu gz (bc (bF (by lia))) λcc H3 s3 nc gc=>?_
   have ek:kry mv pt (t+1)=kry mv pt t++pt.map (jK mv t):=by
    rw[<- wO,Fg,jq,wO];simp
   have Gc:bP K H H3 cc (kry mv pt (t+1)):=by
    rw[ek];exact ⟨_,gc,Paired.imp' (λ_ _ z=>dF.same z s3) (bW pu qz),nZ ⟨H',nc,bW pu qz⟩⟩
   have s03:=s'.trans s3;have g3:=s03 _ _ g;walk_at "w";refine ⟨⟨_,bS.of (s3 _ _ gz)⟩,?_⟩;refine ff (K:=K) (F:=dF K H) (dF K H) (uO mv) (s3 _ _ gz) (Paired.imp' (λ_ _ z=>dF.same z s3) qz) (by rw[ao];lia) (λa b=>a.same b) (λa b=>a.same b) ?_ ?_
   ·rintro i ns v Ha NY NN en sa ⟨u,rfl,_,Ru⟩ k1;have mn:=aw en;obtain ⟨y0,hy0,rfl⟩:=aH.mp mn;have wy:=D.pw y0 hy0;have ga:=sa _ _ g3;walk_at "w";exact ⟨m,u,H0,mv,_,rfl,(Gm.same s03).same sa,Ru,by lia,by rw[kE wy];lia,λxs hx=>⟨by rw[D.mw xs hx,kE wy],((AF.row D.mw D.pw y0 hy0).fit D.mw wy (show t<=tt by lia)).1 xs hx⟩,λz Hj nz sj Rz=>k1 _ _ sj ⟨z,rfl,s03.none (sa.none nz),Rz⟩⟩
   ·rintro ys Hb rr hrr sb gb prb nxb;have e:(pt.map (jK mv t)).map (uO mv)=pt.map (jK mv (t+1)):=by rw[xh];rfl
    rw[e] at prb nxb;exact ⟨s03.trans sb,rr,cc,_,rfl,s'.none nc,Gc.same sb,ys,gb,prb,nZ nxb⟩
  ·rintro σ' H' ⟨s',rq,sm,y,rfl,nsm,Gs,Gq⟩;walk_at "w";exact k sm H' nsm s' Gs
theorem Ex:bu ["_law_one","_law_other"] ["_law_one","_law_other"] (ax j6):=by walk_at "d"
theorem EK (T:Txt K mg Z):cK P w K mg base gi 2 Z.rh Z.qG ["_law_one","_law_other"] (sQ K (λx y=>x - y)):=by
 refine T.vW.ok Ex (λvs H Q E h=>?_) (λcdv A outer s H vs Q E hr h=>?_)
 ·obtain ⟨p,q,a,b,c,d,rfl,hp,hq,hb,hd,sa,sb,sc,sd,k⟩:=AW h;rfl
 ·obtain ⟨p,q,a,b,c,d,rfl,hp,hq,hb,hd,sa,sb,sc,sd,k⟩:=AW h;refine ⟨_,(az (aV (cP (ka T) hr T.iH T.iL.kp T.jN (aa (bL lU (bL dq (bw bY (pv 0) aj) (bw bY (pv 1) aj)) (bL dq (bw bY (pv 1) aj) (bw bY (pv 0) aj))) (aa (bL dq (bw bY (pv 0) aj) (bw bY (pv 1) aj)) ag))))),?_⟩;refine aS (σ:=[some (.ref p),some (.ref q)]) rfl ?_;have hbd:0 < b*d:=pS hb hd;have sbd:Sz 8999 (b*d):=(sb.mul sd).mono (by decide);walk_at "w";refine gL (show js _ _ from .inr ⟨_,_,sa,sd,by decide⟩) ?_;walk_at "w";refine gL (show js _ _ from .inr ⟨_,_,sc,sb,by decide⟩) ?_;walk_at "w";refine gL (show js _ _ from .inr ⟨_,_,sb,sd,by decide⟩) ?_;walk_at "w";walk_at "w";refine ⟨_,_,rfl,hbd,sbd,k⟩
theorem CQ:bu ["_law_one","_law_other"] ["_law_one","_law_other"] (ax iY):=by walk_at "d"
theorem C3 (T:Txt K mg Z):cK P w K mg base gi 3 Z.oS Z.oC ["_law_one","_law_other"] (zG K):=by
 refine T.uw.ok CQ (λvs H Q E h=>?_) (λcdv A outer s H vs Q E hr h=>?_)
 ·obtain ⟨p,q,xs,ys,rfl,_⟩:=h;rfl
 ·obtain ⟨p,q,xs,ys,rfl,hp,hq,hl,hz,h1,h2,kk⟩:=h;refine ⟨_,(az (aV (cC ["_law_k"] ["_law_one","_law_other"] [0,1] (cu rfl T.range (aa (bD aZ (by rfl) T.len aP (aa (pv 0) ag)) ag)) (λ_=>(aN (i:=0) (show List.Nodup (α:=PySem.Str) ["_law_k","_law_one","_law_other"] by decide +kernel))) (λ_=>cG) (λ_=>(cP (EK T) hr T.yF T.vW.kp T.Ay (aa (bw (nG K (by rfl)) (pv 1) (pv 0)) (aa (bw (nG K (by rfl)) (pv 2) (pv 0)) ag))))))),?_⟩;refine aS (σ:=[some (.ref p),some (.ref q)]) rfl ?_;obtain ⟨us,gu,qu⟩:=id hp;obtain ⟨ws,gw,qw⟩:=id hq;have lu:=qu.length;walk_at "w";refine ⟨_,_,rfl,.inl (bS.of gu),?_⟩;walk_at "w";refine ⟨by lia,by lia,?_⟩;refine fX (n:=us.length) (cx K) (λi=>xs.getD i 0 - ys.getD i 0) (by lia) (λa b=>a.same b) ?_ ?_
  ·rintro i H' NY NN hi s k1;have ix:i < xs.length:=by lia
   have iy:i < ys.length:=by lia
   obtain ⟨vx,ex,nx⟩:=Kt (Paired.imp' (λ_ _ z=>z.same s) qu) ix;obtain ⟨vy,ey,ny⟩:=Kt (Paired.imp' (λ_ _ z=>z.same s) qw) iy;walk_at "w";refine cJ (bS.of (s _ _ gu)) ex ?_;walk_at "w";refine cJ (bS.of (s _ _ gw)) ey ?_;walk_at "w";exact ⟨_,_,_,_,rfl,nx,ny,h1 _ (getD_mem ix),h2 _ (getD_mem iy),λr3 H3 s3 n3=>k1 _ _ s3 n3⟩
  ·rintro ys' H' l hl' s g pr nx;exact kk l H' hl' s ⟨ys',g,by rw[HD (by lia)];rw[<- lu] at pr;exact pr⟩
theorem mo:bu ["_law_parts_here","_law_start","_law_steps_here","_law_state","_law_turn"] ["_law_parts_here","_law_start","_law_steps_here"] (ax i5):=by walk_at "d"
theorem C5 (T:Txt K mg Z):cK P w K mg base gi 5 Z.oU Z.oF ["_law_parts_here","_law_start","_law_steps_here"] (Dz K):=by
 refine T.uB.ok mo (λvs H Q E h=>?_) (λcdv A outer s H vs Q E hr h=>?_)
 ·obtain ⟨r,s,tt,H0,mv,pt,lk,st,rfl,_⟩:=h;rfl
 ·obtain ⟨r,s,tt,H0,mv,pt,lk,st,rfl,hT,PQ,D,Rs,ls,AF,k⟩:=h
  refine ⟨_,(ar (bp (i:=3) mo.nd rfl (Or.inl rfl) (d5 (fL K (by rfl)) (by rfl) T.list PyProof.Rows.boot_list (aa (pv 1) ag)))
   (ar (dR PassesOwn.never rfl (cu rfl T.range (aa (pv 2) ag)) (aN (i:=4) mo.nd)
    (az (bp (i:=3) mo.nd rfl (Or.inl rfl) (cP (xW T) hr T.tu T.sH.kp T.wN (aa (bw bY (pv 0) aj) (aa (pv 3) ag))))))
   (az (aV (pv 3))))),?_⟩
  refine aS (σ:=[some (.ref r),some (.ref s),some (.int tt),none,none]) rfl ?_;have d1:=D.n8;obtain ⟨m,p,l,g,n1,n2,n3,Gm,Gp,Gl⟩:=id PQ;obtain ⟨ss,gs,qs⟩:=id Rs;walk_at "w";refine ⟨s,ss,rfl,.inl (bS.of gs),λc hc=>?_⟩;have sc:aE H (upd H c (.lst ss)):=aE.new hc;have Rc:cw K (upd H c (.lst ss)) c st:=⟨ss,aK,Paired.imp' (λ_ _ z=>z.same sc) qs⟩;generalize upd H c (.lst ss)=Hc at sc Rc ⊢;walk_at "w";refine ⟨by lia,by lia,?_⟩;refine eN (n:=tt) (λi σ' H'=>aE H H'/\∃q y,σ'=[some (.ref r),some (.ref s),some (.int tt),some (.ref q),y]/\H q=none/\cw K H' q (jK mv i st)) ⟨sc,c,_,rfl,hc,Rc⟩ ?_ ?_
  ·rintro i σ' H' hi ⟨e,q,y,rfl,nq,Rq⟩;have ge:=e _ _ g;walk_at "w";refine ⟨m,q,H0,mv,_,rfl,Gm.same e,Rq,by lia,by rw[kE ls];lia,λxs hx=>⟨by rw[D.mw xs hx,kE ls],(AF.fit D.mw ls (show i<=tt by lia)).1 xs hx⟩,λq2 H2 n2 s2 R2=>?_⟩;exact ⟨e.trans s2,q2,_,rfl,e.none n2,R2⟩
  ·rintro σ' H' ⟨e,q,y,rfl,nq,Rq⟩;walk_at "w";exact k q H' nq e Rq
theorem uY:bu ["_law_parts_here","_law_start","_law_goal_here","_law_steps_here","_law_price","_law_row_here"] ["_law_parts_here","_law_start","_law_goal_here","_law_steps_here","_law_price"] (ax hZ):=by walk_at "d"
theorem BV (T:Txt K mg Z):cK P w K mg base gi 6 Z.mX Z.mJ ["_law_parts_here","_law_start","_law_goal_here","_law_steps_here","_law_price"] (Bt K):=by
 refine T.rS.ok uY (λvs H Q E h=>?_) (λcdv A outer s H vs Q E hr h=>?_)
 ·obtain ⟨r,s,g0,p0,tt,H0,mv,pt,lk,st,go,pr,rfl,_⟩:=h;rfl
 ·obtain ⟨r,s,g0,p0,tt,H0,mv,pt,lk,st,go,pr,rfl,hT,PQ,D,Rs,ls,Rg,lg,Rp,lpr,PF,hz,h1,k⟩:=h
  refine ⟨_,(ar (cO (ib (fo (cP (vm T) hr T.pP T.nk.kp T.rN (aa (pv 4) (aa (bD aZ (by rfl) T.len aP (aa (bw bY (pv 0) aj) ag)) ag))))) (az (aV pH)) bT)
   (ar (dR PassesOwn.never rfl (cR (cP (C6 T) hr T.xE T.uC.kp T.za (aa (pv 0) (aa (pv 3) ag)))) (aN (i:=5) uY.nd)
    (az (cO (bC (HY (Ip hr)) (cP (vn T) hr T.p6 T.pR.kp T.tV (aa (pv 4) (aa (pv 5) ag))) (cL (aa aj (aa aj ag))) (bK _)) (az (aV pH)) bT)))
   (az (aV (jC (EA (Ip hr)) (cP (vn T) hr T.p6 T.pR.kp T.tV (aa (pv 4) (aa (cP (C3 T) hr T.xB T.uw.kp T.y7 (aa (pv 2) (aa (cP (C5 T) hr T.xD T.uB.kp T.y9 (aa (pv 0) (aa (pv 1) (aa (pv 3) ag)))) ag))) ag))) (cL (aa aj (aa aj ag))) (bK _)))))),?_⟩
  refine aS (σ:=[some (.ref r),some (.ref s),some (.ref g0),some (.int tt),some (.ref p0),none]) rfl ?_;have d8:=D.n8;have i4:=D.i4;obtain ⟨m,p,l,g,n1,n2,n3,Gm,Gpt,Gl⟩:=id PQ;obtain ⟨um,gm,qm,_⟩:=id Gm;have lum:=qm.length;walk_at "w";refine ⟨_,_,rfl,.inl (bS.of gm),?_⟩;rw[<- lum];walk_at "w";refine ⟨p0,pr.map nm,by rw[ao,lpr],Rp.rowK,by rw[ao];lia,λv hv=>?_,λH2 s2=>?_⟩
  ·obtain ⟨v,mv',rfl⟩:=aH.mp hv;exact K9 (PF.sr v mv')
  walk_at "w";refine ⟨r,tt,H0,mv,pt,lk,rfl,hT,PQ.same s2,D,PF.ad,λq H3 nq s3 Gq=>?_⟩;obtain ⟨us,gu,qu,_⟩:=id Gq;have wk:=iI (mv:=mv) (pt:=pt) rfl D.pw tt;have s03:=s2.trans s3;walk_at "w";refine ⟨⟨_,bS.of gu⟩,?_⟩;refine fW (K:=K) (a:=q) (xs:=us) (λi σ' H'=>aE H3 H'/\∃x1,σ'=[some (.ref r),some (.ref s),some (.ref g0),some (.int tt),some (.ref p0),x1]) ⟨aE.refl _,_,rfl⟩ (λi σ' H' _ ⟨e,_⟩=>bS.of (e _ _ gu)) ?_ ?_
  ·rintro i v σ' H' hv ⟨e,x1,rfl⟩;obtain ⟨row,er,u,rfl,_,Ru⟩:=cv qu hv;have mr:=aw er;have wr:=wk row mr;have e3:=s03.trans e;have dz:eC pr row=0:=by rw[GN (by lia)];exact hz row mr
   walk_at "w";refine ⟨p0,u,pr,row,rfl,Rp.same e3,cw.same Ru e,by lia,by lia,PF.f1 row mr,λd1 H4 s4 N4=>?_⟩;rw[dz] at N4;walk_at "w";refine bZ λt5 H5 s5 g5=>?_
   walk_at "w";refine ⟨_,_,L8,0,0,by decide,N4.same s5,cx.mk (q:=0) g5 rfl,?_⟩;rw[decide_eq_true rfl];walk_at "w";exact ⟨(e.trans s4).trans s5,_,rfl⟩
  ·rintro σ' H' ⟨e,x1,rfl⟩;have e3:=s03.trans e;walk_at "w";refine ⟨r,s,tt,H0,mv,pt,lk,st,rfl,by lia,PQ.same e3,D,Rs.same e3,ls,PF.al,λal H4 n4 s4 R4=>?_⟩;have lpw:=kE (mv:=mv) ls tt;walk_at "w";refine ⟨g0,al,go,_,rfl,(Rg.same e3).same s4,R4,by rw[lpw,lg],by lia,PF.sg,(PF.al.fit D.mw ls (ak _)).2,λlq H5 n5 s5 R5=>?_⟩;have R5:cw K H5 lq (gF mv tt st go):=R5;have ll:=GH (T:=tt) ls lg;have e5:=(e3.trans s4).trans s5;walk_at "w";refine ⟨p0,lq,pr,_,rfl,Rp.same e5,R5,by lia,by lia,PF.f2,λd1 H6 s6 N6=>?_⟩;rw[h1] at N6;walk_at "w";refine bZ λt7 H7 s7 g7=>?_
   walk_at "w";refine ⟨_,_,L8,1,1,by decide,N6.same s7,cx.mk (q:=1) g7 rfl,?_⟩;rw[decide_eq_true rfl];exact k _ ((e5.trans s6).trans s7)
theorem gR:bu ["_law_system_here","_law_parts_here","_law_start","_law_goal_here","_law_most","_law_handed","_law_found","_law_steps_here","_law_puts_here","_law_prices"] ["_law_system_here","_law_parts_here","_law_start","_law_goal_here","_law_most"] (ax iV):=by walk_at "d"
theorem C1 (T:Txt K mg Z):cK P w K mg base gi 10 Z.oP Z.oz ["_law_system_here","_law_parts_here","_law_start","_law_goal_here","_law_most"] (Bs K Z.a_System):=by
 refine T.uu.ok gR (λvs H Q E h=>?_) (λcdv A outer s H vs Q E hr h=>?_)
 ·obtain ⟨x,r,s,g,tt,a,c,H0,H1,mv,pt,lk,st,go,rfl,_⟩:=h;rfl
 ·obtain ⟨x,r,s,g,tt,a,c,H0,H1,mv,pt,lk,st,go,rfl,t12,S,PQ,D,SF,KF,Rs,ls,Rg,lg,SO,k⟩:=h
  refine ⟨_,(ar (bp (i:=5) gR.nd rfl (Or.inl rfl) (di (aa (d5 (fL K (by rfl)) (by rfl) T.list PyProof.Rows.boot_list (aa (pv 2) ag)) (aa (d5 (fL K (by rfl)) (by rfl) T.list PyProof.Rows.boot_list (aa (pv 3) ag)) ag))))
   (ar (bp (i:=6) gR.nd rfl (Or.inl rfl) (cP (xU T) hr T.tm T.sF.kp T.wM (aa (pv 0) (aa (bw bV (pv 5) aj) (aa (bw bV (pv 5) aj) (aa (pv 4) ag))))))
   (ar (cO (PW.pt (lB (ib (fo (rD rfl T.isinstance PyProof.Rows.boot_tuple T.tuple (pv 6)))) (lB (bC vf (bD aZ (by rfl) T.len aP (aa (pv 6) ag)) aj (bK _)) (lB (bC (HY (Ip hr)) (pv 5) (di (aa (pv 2) (aa (pv 3) ag))) (bK _)) (kC (ib (fo (rD rfl T.isinstance PyProof.Rows.boot_list T.list (bw bY (pv 6) aj))))))))) (az (aV pH)) bT)
   (ar (fz (pv 6) (va rfl (cH (aN (i:=7) gR.nd) (cH (aN (i:=8) gR.nd) (cH (aN (i:=9) gR.nd rfl (Or.inr rfl) (Or.inl rfl)) jc)))))
   (jb (cO (bC Qd (pv 7) zQ (bK _)) (az (cO (PW.pt (lB (bC (HY (Ip hr)) (pv 8) (di ag) (bK _)) (kC (bC vf (bD aZ (by rfl) T.len aP (aa (pv 9) ag)) (bL eF (pv 4) aj) (bK _))))) (az (aV pH)) bT)) (ar (cO (PW.pt (lB (ib (fo (rD rfl T.isinstance PyProof.Rows.boot_int T.int (pv 7)))) (lB (fo (rD rfl T.isinstance PyProof.Rows.boot_bool T.bool (pv 7))) (lB (ib (LA LK LK aj (pv 7) (pv 4))) (kC (bC vf (bD aZ (by rfl) T.len aP (aa (pv 9) ag)) (pv 7) (bK _))))))) (az (aV pH)) bT)
   (az (cO (ib (fo (cP (C4 T) hr T.xC T.uy.kp T.y8 (aa (pv 1) (aa (pv 2) (aa (pv 3) (aa (pv 7) (aa (pv 8) ag)))))))) (az (aV pH)) bT))))
   (az (aV (bD (yS rfl) (by rfl) T.all PyProof.Rows.boot_all (aa (cC ["_law_k"] ["_law_parts_here","_law_start","_law_goal_here","_law_prices"] [1,2,3,9] (cu rfl T.range (aa (bD aZ (by rfl) T.len aP (aa (pv 9) ag)) ag)) (λ_=>(aN (i:=0) (show List.Nodup (α:=PySem.Str) ["_law_k","_law_parts_here","_law_start","_law_goal_here","_law_prices"] by decide +kernel))) (λ_=>cG) (λ_=>(cP (BV T) hr T.vz T.rS.kp T.xI (aa (pv 1) (aa (pv 2) (aa (pv 3) (aa (pv 0) (aa (bw (nG K (by rfl)) (pv 4) (pv 0)) ag)))))))) ag))))))))),?_⟩
  refine aS (σ:=[some (.ref x),some (.ref r),some (.ref s),some (.ref g),some (.int tt),none,none,none,none,none]) rfl ?_;obtain ⟨zs,gz,qz⟩:=id Rs;obtain ⟨ys,gy,qy⟩:=id Rg;walk_at "w";refine ⟨s,zs,rfl,.inl (bS.of gz),λc1 hc1=>?_⟩;have s1:aE H (upd H c1 (.lst zs)):=aE.new hc1;have R1:cw K (upd H c1 (.lst zs)) c1 st:=⟨zs,aK,Paired.imp' (λ_ _ z=>z.same s1) qz⟩;generalize upd H c1 (.lst zs)=H2 at s1 R1 ⊢;walk_at "w";refine ⟨g,ys,rfl,.inl (bS.of (s1 _ _ gy)),λc2 hc2=>?_⟩;have s2:aE H2 (upd H2 c2 (.lst ys)):=aE.new hc2;have R2:cw K (upd H2 c2 (.lst ys)) c2 go:=⟨ys,aK,Paired.imp' (λ_ _ z=>z.same (s1.trans s2)) qy⟩;generalize upd H2 c2 (.lst ys)=H3 at s2 R2 ⊢;walk_at "w";refine cQ λhl H4 s4 n4 g4=>?_
  have s04:=(s1.trans s2).trans s4;have R14:=R1.same (s2.trans s4);have R24:=R2.same s4;walk_at "w";refine ⟨x,c1,c2,tt,a,c,H0,mv,pt,lk,st,go,rfl,by lia,S.same s04,D,SF,KF,R14,ls,R24,lg,SO,λkv ft p rr pus prs Hm H5 gt sm s5 nr Gr np Gp SR=>?_⟩;have s45:=sm.trans s5;have s05:=s04.trans s45;walk_at "w";refine Ey (.tup gt) (.inr (.inr (.inr rfl))) ?_;rw[show tyB "tuple" (.ref ft) H5=true by unfold tyB;dsimp only;rw[gt];rfl];walk_at "w";refine ⟨_,_,rfl,.inr (lA.of gt),?_⟩;walk_at "w"
  try refine Ku ?_
  walk_at "w";refine cQ λl6 H6 s6 n6 g6=>?_
  have gt6:=s6 _ _ gt;have s06:=s05.trans s6;have s46:=s45.trans s6;walk_at "w";refine ⟨_,_,yb,[st,go],[st,go],by decide,⟨hl,_,rfl,bS.of (s46 _ _ g4),.cons (R14.same s46).kind (.cons (R24.same s46).kind .nil)⟩,⟨l6,_,rfl,bS.of g6,.cons (Rs.same s06).kind (.cons (Rg.same s06).kind .nil)⟩,?_⟩;rw[decide_eq_true rfl];have Gr6:=Gr.same (s5.trans s6);have Gp6:=Gp.same s6;obtain ⟨rs,gr,qr,_⟩:=id Gr6;have lr:=qr.length;walk_at "w";refine Ey (.lst gr) (.inr (.inr (.inl rfl))) ?_;rw[show tyB "list" (.ref rr) H6=true by unfold tyB;dsimp only;rw[gr];rfl];obtain ⟨SB,SC⟩:=SR
  have lkp:prs.length<=tt+1:=by
   rcases SC with ⟨kk,_,h1,h2,_⟩ | ⟨_,_,h⟩
   ·lia
   ·lia
  walk_at "w";refine ⟨λσ' H'=>aE H6 H'/\σ'=[some (.ref x),some (.ref r),some (.ref s),some (.ref g),some (.int tt),some (.ref hl),some (.ref ft),some kv,some (.ref p),some (.ref rr)],?_,?_⟩
  ·rcases SC with ⟨kk,rfl,k1,lpr,SA⟩ | ⟨rfl,rfl,lpr⟩
   ·obtain ⟨lp,wp,est,cp,EF⟩:=SA;walk_at "w";refine ⟨rfl,_,rfl,?_⟩;rw[decide_eq_false (show ¬(V.int (kk:Int)=V.non) from λz=>nomatch z)];walk_at "w";refine Ey (.int _) (.inl rfl) ?_;walk_at "w"
    try refine Ku ?_
    walk_at "w";refine Ey (.int _) (.inr (.inl rfl)) ?_;rw[show tyB "bool" (V.int (kk:Int)) H6=false from rfl];walk_at "w";unfold K7;walk_at "w";rw[decide_eq_true (show (0:Int)<=(kk:Int) by lia)];walk_at "w";rw[decide_eq_true (show (kk:Int)<=(tt:Int) by lia)];walk_at "w";refine ⟨_,_,rfl,.inl (bS.of gr),?_⟩;walk_at "w";rw[decide_eq_true (show ((rs.length:Nat):Int)=(kk:Int) by lia)];walk_at "w";refine ⟨r,s,g,p,kk,H1,Hm,mv,pt,lk,pus,st,go,rfl,by lia,PQ.same s06,D,Rs.same s06,ls,Rg.same s06,Gp6,lp,wp,EF,est,λH7 s7=>?_⟩;walk_at "w";exact ⟨s7,rfl⟩
   ·walk_at "w";refine ⟨rfl,_,rfl,?_⟩;rw[decide_eq_true rfl];walk_at "w";refine cQ λe7 H7 s7 n7 g7=>?_
    walk_at "w";refine ⟨_,_,yb,[],[],by decide,(Gp6.same s7).kind,⟨e7,_,rfl,bS.of g7,.nil⟩,?_⟩;rw[decide_eq_true rfl];walk_at "w";refine ⟨_,_,rfl,.inl (bS.of (s7 _ _ gr)),?_⟩;walk_at "w";rw[decide_eq_true (show ((rs.length:Nat):Int)=(tt:Int)+1 by lia)];walk_at "w";exact ⟨s7,rfl⟩
  rintro σ' H7 ⟨s7,rfl⟩;have gr7:=s7 _ _ gr;have s07:=s06.trans s7;walk_at "w";refine ⟨_,_,rfl,.inl (bS.of gr7),?_⟩;rw[<- lr];walk_at "w";refine ⟨by lia,by lia,?_⟩;refine tO (n:=prs.length) (λi ys H'=>aE H7 H'/\ys=List.replicate i (.bl true)) (bc (bF (by lia))) ⟨aE.refl _,rfl⟩ ?_ ?_
  ·rintro i ys H8 hi hlen ⟨s8,rfl⟩;rw[Bi];obtain ⟨pr,vp,ep,evp,mp,qp,rfl,_,Rp⟩:=jL qr (i:=i) hi;obtain ⟨b1,b2,b3,_,PF⟩:=SB i pr ep;have s08:=s07.trans s8;walk_at "w";refine cJ (bS.of (s8 _ _ gr7)) (fF evp) ?_;walk_at "w";refine ⟨r,s,g,qp,i,H1,mv,pt,lk,st,go,pr,rfl,by lia,PQ.same s08,D,Rs.same s08,ls,Rg.same s08,lg,Rp.same (s7.trans s8),b1,PF,b2,b3,λH9 s9=>⟨s8.trans s9,by rw[uM]⟩⟩
  rintro ys H8 hy ⟨s8,rfl⟩ l9 hl9;have sn9:aE H8 (upd H8 l9 (.lst (List.replicate prs.length (.bl true)))):=aE.new hl9;walk_at "w";refine ⟨l9,List.replicate prs.length true,rfl,bS.of (by rw[aK];simp),?_⟩;rw[show (List.replicate prs.length true).all id=true by simp];exact k _ ((s07.trans s8).trans sn9)
theorem jJ:bu ["_law_script","_law_bag_here","_law_parts_here","_law_wide","_law_n","_law_system_here","_law_most","_law_rest","_law_start","_law_goal_here","_law_other","_law_found","_law_kept_here","_law_one","_law_count"] ["_law_script"] (ax DB):=by walk_at "d"
theorem Qf (T:Txt K mg Z):cK P w K mg base gi 11 Z.MO Z.MB ["_law_script"] (Bv K):=by
 refine T.O8.ok jJ (λvs H Q E h=>?_) (λcdv A outer s H vs Q E hr h=>?_)
 ·obtain ⟨a,ns,rfl,_⟩:=h;rfl
 ·obtain ⟨a,ns,rfl,hS,hlen,k⟩:=h
  refine ⟨_,(ar (bp (i:=1) jJ.nd rfl (Or.inl rfl) (cP (Gu T) hr T.Am T.yg.kp T.Cw (aa (pv 0) ag)))
   (ar (fz (cP (BU T) hr T.vw T.rR.kp T.xH (aa (pv 1) ag)) (va rfl (cH (aN (i:=2) jJ.nd) (cH (aN (i:=3) jJ.nd) jc))))
   (ar (bp (i:=4) jJ.nd rfl (Or.inl rfl) (bD aZ (by rfl) T.len aP (aa (bw bY (pv 2) aj) ag)))
   (ar (bp (i:=5) jJ.nd rfl (Or.inl rfl) (cP (EJ T) hr T.yE T.vV.kp T.Ax (aa (pv 2) ag)))
   (ar (bp (i:=6) jJ.nd rfl (Or.inl rfl) (cP (CY T) hr T.xv T.uq.kp T.yW (aa (pv 1) (aa (pv 2) ag))))
   (ar (pY 7 ["_law_k"] [] [] jJ.nd rfl rfl (cu rfl T.range (aa (pv 4) ag)) (λ_=>(aN (i:=0) (show List.Nodup (α:=PySem.Str) ["_law_k"] by decide +kernel))) (λ_=>cG) (λ_=>(cL (aa aj (aa aj ag)))))
   (ar (bp (i:=8) jJ.nd rfl (Or.inl rfl) (bw bV (di (aa (pv 7) (aa (cP (j9 T) hr T.gE T.gN.kp T.iK (aa (pv 1) (aa (pv 4) (aa (pv 3) ag)))) (aa (cP (j9 T) hr T.gE T.gN.kp T.iK (aa (pv 1) (aa (pv 4) (aa (pv 3) ag)))) ag)))) (cP (aY T) hr T.aQ T.aX.kp T.be (aa (pv 1) (aa aj ag)))))
   (ar (bp (i:=9) jJ.nd rfl (Or.inl rfl) (cP (EM T) hr T.yG T.vX.kp T.Az (aa (pv 1) (aa (pv 2) (aa (pv 8) (aa (cP (aY T) hr T.aQ T.aX.kp T.be (aa (pv 1) (aa (bL eF (pv 6) aj) ag))) (aa (pv 3) ag)))))))
   (ar (bp (i:=10) jJ.nd rfl (Or.inl rfl) (bw bV (di (aa (pv 7) (aa (pv 8) (aa (pv 9) ag)))) (cP (aY T) hr T.aQ T.aX.kp T.be (aa (pv 1) (aa aj ag)))))
   (ar (bp (i:=11) jJ.nd rfl (Or.inl rfl) (cP (xU T) hr T.tm T.sF.kp T.wM (aa (pv 5) (aa (pv 8) (aa (pv 9) (aa (pv 6) ag))))))
   (ar (bp (i:=12) jJ.nd rfl (Or.inl rfl) (cP (EL T) hr T.oj T.kj.kp T.qN (aa (pv 11) ag)))
   (ar (ij (cP (CZ T) hr T.rJ T.kZ.kp T.tT (aa (pv 11) ag)))
   (ar (dR PassesOwn.never rfl (cR (di (aa (cL (aa (pv 9) (aa (pv 6) ag))) (aa (cL (aa (pv 10) (aa (pv 6) ag))) (aa (cL (aa (pv 9) (aa (cP (aY T) hr T.aQ T.aX.kp T.be (aa (pv 1) (aa (bL eF (pv 6) aj) ag))) ag))) ag))))) (va rfl (cH (aN (i:=13) jJ.nd) (cH (aN (i:=14) jJ.nd) jc)))
    (az (cO (ib (fo (cP (C1 T) hr T.xy T.uu.kp T.yY (aa (pv 5) (aa (pv 2) (aa (pv 8) (aa (pv 13) (aa (pv 14) ag)))))))) (az (aV pH)) bT)))
   (az (aV (jC (EA (Ip hr)) (cP (xU T) hr T.tm T.sF.kp T.wM (aa (pv 5) (aa (pv 8) (aa (pv 9) (aa (pv 6) ag))))) (pv 12) (bK _))))))))))))))))),?_⟩
  refine aS (σ:=[some (.ref a),none,none,none,none,none,none,none,none,none,none,none,none,none,none]) rfl ?_;walk_at "w";refine ⟨a,ns,rfl,hS,hlen,λb H0 hb0 B0 s0=>?_⟩;walk_at "w";refine ⟨b,rfl,B0,λt r w a' c mv pt lk H1 g1 P1 D F KF RG w1 w2 B1 u1=>?_⟩;have d8:=D.n8;have d4:=D.i4;obtain ⟨m,p,l,gt,mn,pn,ln,Gm,Gp,Gl⟩:=id P1;obtain ⟨um,gm,qm,_⟩:=id Gm;have lum:=qm.length;walk_at "w";refine ⟨_,_,rfl,.inl (bS.of gm),?_⟩;rw[<- lum];clear gm qm lum Gm Gp Gl gt;walk_at "w";refine ⟨r,H0,mv,pt,lk,rfl,P1,D,F.sf,λx H2 nx s2 S2=>?_⟩;replace S2:nX K H0 H2 Z.a_System x mv pt lk:=S2.weakN λq h=>u1.none B1 h
  replace P1:=P1.same s2;have B2:=B1.same s2
  have szE:∀xs∈mv++pt,∀x∈xs,ug x:=λxs hx y hy=>by
   obtain ⟨M,V,h0,h1,h2,f1,f2,_⟩:=F;refine Oi h0 (ai h1 (au (by decide) (by decide))) (ai h2 (au (by decide) (by decide))) ?_;rcases ay.mp hx with hx | hx
   ·exact f1 xs hx y hy
   ·exact f2 xs hx y hy
  walk_at "w";refine ⟨b,r,H0,mv,pt,lk,rfl,B2,B0.at,P1,D,szE,λtt H3 hT B3 u3=>?_⟩;clear szE;replace P1:=P1.upto u3 B2 B0.at;replace S2:=S2.upto u3 B2 B0.at;have T12:=hT.1;obtain ⟨M1,M2,Vx,a1,a2,cc,b1,b2,U⟩:=Pw RG D hT;walk_at "w";refine ⟨by lia,by lia,?_⟩;refine fX (n:=mv.length) (cx K) (λ_=>(0:Rat)) (by lia) (λa b=>a.same b) ?_ ?_
  ·rintro i H' NY NN hi s' k1;walk_at "w";refine bZ λt Hy sy gy=>?_
   exact k1 _ _ sy (cx.mk (q:=0) gy rfl)
  rintro ys H4 re hre s4 g4 pr4 _;have R0:cw K H4 re (List.replicate mv.length 0):=⟨ys,g4,by have:=pr4;rwa [CH,cE] at this⟩;have reb:re≠b:=λz=>B3.at (by rw[<- z];exact hre)
  have B4:=B3.same s4;replace P1:=P1.same s4;replace S2:=S2.same s4;clear g4 pr4;have z6:Dr (max w 6) 0:=⟨by show 0<=_;lia,by show 1<=_;lia⟩;walk_at "w";refine ⟨b,mv.length,w,rfl,B4,by lia,w1,by lia,λq1 t1 H5 n1 R1 l1 d1 B5 u5=>?_⟩;walk_at "w";refine ⟨b,mv.length,w,rfl,B5,by lia,w1,by lia,λq2 t2 H6 n2 R2 l2 d2 B6 u6=>?_⟩;have qb1:q1≠b:=λz=>B4.at (by rw[<- z];exact n1)
  have qb2:q2≠b:=λz=>B5.at (by rw[<- z];exact n2)
  walk_at "w";refine cQ λsl H7 s7 n7 g7=>?_
  have u47:=(u5.trans u6).same s7;have B7:=B6.same s7;replace R0:=R0.upto u47 B4 reb;replace R1:=R1.upto (u6.same s7) B5 qb1;replace R2:=R2.same s7;replace P1:=P1.upto u47 B4 B0.at;replace S2:=S2.upto u47 B4 B0.at;have slb:sl≠b:=λz=>B6.at (by rw[<- z];exact n7)
  walk_at "w";refine ⟨b,3,rfl,B7,by decide,by decide,λv8 H8 v80 v81 B8 u8=>?_⟩;obtain ⟨v8,rfl⟩:=bQ v80;replace R0:=R0.upto u8 B7 reb;replace R1:=R1.upto u8 B7 qb1;replace R2:=R2.upto u8 B7 qb2;replace P1:=P1.upto u8 B7 B0.at;replace S2:=S2.upto u8 B7 B0.at
  obtain ⟨sa,st,esa,sab,Ra,la,da⟩:∃sa st,([V.ref re,V.ref q1,V.ref q2]:List V)[v8]?=some (V.ref sa)/\sa≠b/\cw K H8 sa st/\st.length=mv.length/\∀x∈st,Dr (max w 6) x:=by
   rcases (show v8=0\/v8=1\/v8=2 by lia) with rfl | rfl | rfl
   ·exact ⟨re,_,rfl,reb,R0,aI ..,λx hx=>by rw[iE hx];exact z6⟩
   ·exact ⟨q1,t1,rfl,qb1,R1,l1,d1⟩
   ·exact ⟨q2,t2,rfl,qb2,R2,l2,d2⟩
  clear R1 R2 l1 l2 d1 d2 qb1 qb2 n1 n2;walk_at "w";refine cJ (bS.of (u8.other slb g7)) (fF esa) ?_;walk_at "w";refine ⟨b,(tt:Int)+1,rfl,B8,by lia,by lia,λv9 H9 v90 v91 B9 u9=>?_⟩;obtain ⟨t9,rfl⟩:=bQ v90;have t9T:t9<=tt:=by lia
  replace R0:=R0.upto u9 B8 reb;replace Ra:=Ra.upto u9 B8 sab;replace P1:=P1.upto u9 B8 B0.at;replace S2:=S2.upto u9 B8 B0.at;walk_at "w";refine ⟨b,r,sa,t9,w,H0,mv,pt,lk,st,rfl,by lia,w1,w2,B9,B0.at,P1,D,Ra,sab,la,λpus dp=>U.enf D la da t9T dp,λg go H10 ng Rg lg GP B10 u10=>?_⟩;have gb:g≠b:=λz=>B9.at (by rw[<- z];exact ng)
  replace R0:=R0.upto u10 B9 reb;replace Ra:=Ra.upto u10 B9 sab;replace P1:=P1.upto u10 B9 B0.at;replace S2:=S2.upto u10 B9 B0.at;have GB:=U.gob D la lg da t9T GP;walk_at "w";refine cQ λol H11 s11 n11 g11=>?_
  have olb:ol≠b:=λz=>B10.at (by rw[<- z];exact n11)
  have B11:=B10.same s11;walk_at "w";refine ⟨b,3,rfl,B11,by decide,by decide,λv12 H12 v120 v121 B12 u12=>?_⟩;obtain ⟨v12,rfl⟩:=bQ v120;have u1012:cV b H10 H12:=s11.upto.trans u12;replace R0:=R0.upto u1012 B10 reb;replace Ra:=Ra.upto u1012 B10 sab;replace Rg:=Rg.upto u1012 B10 gb;replace P1:=P1.upto u1012 B10 B0.at;replace S2:=S2.upto u1012 B10 B0.at
  obtain ⟨ot,to,eot,otb,Ro,lo,GO⟩:∃ot to,([V.ref re,V.ref sa,V.ref g]:List V)[v12]?=some (V.ref ot)/\ot≠b/\cw K H12 ot to/\to.length=mv.length/\SH mv pt M1 M2 cc b1 tt st to:=by
   rcases (show v12=0\/v12=1\/v12=2 by lia) with rfl | rfl | rfl
   ·exact ⟨re,_,rfl,reb,R0,aI ..,U.gob D la (aI ..) da t9T (.inl λx hx=>by rw[iE hx];exact z6)⟩
   ·exact ⟨sa,st,rfl,sab,Ra,la,U.gob D la la da t9T (.inl da)⟩
   ·exact ⟨g,go,rfl,gb,Rg,lg,GB⟩
  have SG:∀u,u<=tt->QV mv pt st go u (O5 mv pt st go u) (OB mv pt st go u):=λu hu=>GB.soo U D la hu
  have SO:∀u,u<=tt->QV mv pt st to u (O5 mv pt st to u) (OB mv pt st to u):=λu hu=>GO.soo U D la hu
  clear R0;walk_at "w";refine cJ (bS.of (u12.other olb g11)) (fF eot) ?_;walk_at "w";refine ⟨x,sa,g,tt,a',c,H0,mv,pt,lk,st,go,rfl,by lia,S2,D,F,KF,Ra,la,Rg,lg,SG,λkv ft fp fr pus prs Hm H13 gft sm s13 nfr Gr nfp Gp SR=>?_⟩
  have fkv:p7 kv=true:=by
   rcases SR.2 with ⟨kk,rfl,_⟩ | ⟨rfl,_⟩ <;> rfl
  have o1:Ed.ok (.fl kv):=fkv;have n98:∀{l:LR9},l.length<=13->(∀xs∈l,xs.length<=8)->Ed.ok (.grid l):=λh1 h2=>⟨by lia,λxs hx=>by have:=h2 xs hx;lia⟩
  have o2:Ed.ok (.grid pus):=by
   rcases SR.2 with ⟨kk,_,k1,_,lp,wp,_⟩ | ⟨_,rfl,_⟩
   ·exact n98 (by lia) λxs hx=>by rw[wp xs hx];lia
   ·exact n98 (by simp) (λxs hx=>nomatch hx)
  have o3:Ed.ok (.grid prs):=by
   refine n98 ?_ λxs hx=>?_
   ·rcases SR.2 with ⟨kk,_,k1,l,_⟩ | ⟨_,_,l⟩ <;> lia
   ·obtain ⟨i,hi,rfl⟩:=bX hx;rw[(SR.1 i _ (af hi)).1]
    lia
  have hok:∀d∈([.fl kv,.grid pus,.grid prs]:List Ed),Ed.ok d:=λd hd=>by
   simp only[aD,aO,or_false] at hd;rcases hd with rfl | rfl | rfl
   ·exact o1
   ·exact o2
   ·exact o3
  walk_at "w";refine ⟨_,rfl,.inr (.inr (.inr (.inr ⟨by decide,ft,_,H12,[.fl kv,.grid pus,.grid prs],rfl,lA.of gft,.cons rfl (.cons ⟨fp,rfl,sm.none nfp,Gp.weak sm⟩ (.cons ⟨fr,rfl,nfr,Gr.same s13⟩ .nil)),by simp,hok,λkt yk H14 s14 gkt pk=>?_⟩)))⟩;have s1213:=sm.trans s13;have s1214:=s1213.trans s14;walk_at "w";refine ⟨_,rfl,.inr (.inr (.inr (.inr ⟨by decide,ft,_,[(.fl kv,λ_=>False),(.grid pus,λa=>Hm a=none/\H13 a≠none),(.grid prs,λa=>H12 a=none/\Hm a≠none)],rfl,lA.of (s14 _ _ gft),.cons rfl (.cons (CB.elW (d:=.grid pus) ⟨fp,rfl,nfp,Gp⟩ s14) (.cons (CB.elW (d:=.grid prs) ⟨fr,rfl,nfr,Gr⟩ (s13.trans s14)) .nil)),by simp,λe he=>?_,λi j e e' hij hi hj a h1 h2=>?_,λH15 k15=>?_⟩)))⟩
  ·simp only[aD,aO,or_false] at he;rcases he with rfl | rfl | rfl
   ·exact o1
   ·exact o2
   ·exact o3
  ·have j3:j < 3:=(aB.mp hj).1;rcases (show (i=0/\j=1)\/(i=0/\j=2)\/(i=1/\j=2) by lia) with ⟨rfl,rfl⟩ | ⟨rfl,rfl⟩ | ⟨rfl,rfl⟩
   ·cases hi;exact h2
   ·cases hi;exact h2
   ·cases hi;cases hj;exact h1.2 h2.1
  have nW:∀a,H12 a≠none->¬∃e∈([(.fl kv,λ_=>False),(.grid pus,λa=>Hm a=none/\H13 a≠none),(.grid prs,λa=>H12 a=none/\Hm a≠none)]:List (Ed×(Addr->Prop))),e.2 a:=λa ha ⟨e,he,z⟩=>by
   simp only[aD,aO,or_false] at he;rcases he with rfl | rfl | rfl
   ·exact z
   ·exact ha (sm.none z.1)
   ·exact ha z.1
  have nW3:∀a,H13 a=none->¬∃e∈([(.fl kv,λ_=>False),(.grid pus,λa=>Hm a=none/\H13 a≠none),(.grid prs,λa=>H12 a=none/\Hm a≠none)]:List (Ed×(Addr->Prop))),e.2 a:=λa ha ⟨e,he,z⟩=>by
   simp only[aD,aO,or_false] at he;rcases he with rfl | rfl | rfl
   ·exact z
   ·exact z.2 ha
   ·exact z.2 (s13.none ha)
  have s1215:aE H12 H15:=λa o h=>k15 a o (s1214 a o h) (.inl (nW a (by rw[h];exact λz=>nomatch z)))
  have gkt15:H15 kt=some (.tup yk):=k15 _ _ gkt (.inr λ_ z=>nomatch z);have pk15:Paired (CB K H13 H15) [.fl kv,.grid pus,.grid prs] yk:=Paired.imp' (λ_ _ z=>CB.kp z k15 nW3) pk;clear k15 nW nW3 pk gkt Gp Gr gft;replace P1:=P1.same s1215;replace S2:=S2.same s1215;replace Ra:=Ra.same s1215;replace Rg:=Rg.same s1215;replace Ro:=Ro.same s1215;have B15:=B12.same s1215;have b13:H13 b≠none:=λz=>B12.at (s1213.none z)
  walk_at "w";refine bZ λtA H16 s16 gA=>?_
  walk_at "w";refine bZ λtB H17 s17 gB=>?_
  have s1517:=s16.trans s17;have B17:=B15.same s1517;walk_at "w";refine ⟨b,(tt:Int)+1,rfl,B17,by lia,by lia,λv18 H18 v180 v181 B18 u18=>?_⟩;obtain ⟨t18,rfl⟩:=bQ v180;walk_at "w";refine bZ λtC H19 s19 gC=>?_
  walk_at "w";refine cQ λll H20 s20 n20 g20=>?_
  have s1820:=s19.trans s20;have u1520:cV b H15 H20:=(s1517.upto.trans u18).same s1820;have gA20:=s1820 _ _ (u18.tup B17 (s17 _ _ gA));have gB20:=s1820 _ _ (u18.tup B17 gB);have gC20:=s20 _ _ gC;replace P1:=P1.upto u1520 B15 B0.at;replace S2:=S2.upto u1520 B15 B0.at;replace Ra:=Ra.upto u1520 B15 sab;replace Rg:=Rg.upto u1520 B15 gb;replace Ro:=Ro.upto u1520 B15 otb;have gkt20:=u1520.tup B15 gkt15;have pk20:Paired (CB K H13 H20) [.fl kv,.grid pus,.grid prs] yk:=Paired.imp' (λ_ _ z=>CB.upto z u1520 B15 b13) pk15;clear gA gB gC pk15 gkt15;walk_at "w";refine ⟨⟨_,bS.of g20⟩,?_⟩;refine fW (K:=K) (a:=ll) (xs:=[V.ref tA,V.ref tB,V.ref tC]) (λi σ' H'=>aE H20 H'/\∃y1 y2,σ'=[some (.ref a),some (.ref b),some (.ref r),some (.int w),some (.int mv.length),some (.ref x),some (.int tt),some (.ref re),some (.ref sa),some (.ref g),some (.ref ot),some (.ref ft),some (.ref kt),y1,y2]) ⟨aE.refl _,_,_,rfl⟩ (λi σ' H' _ ⟨s',_⟩=>bS.of (s' _ _ g20)) ?_ ?_
  ·rintro i v σ' Hi hv ⟨si,y1,y2,rfl⟩;have hm:=aw hv;simp only[aD,aO,or_false] at hm;have t18T:t18<=tt:=by lia
   obtain h | h | h:(v=V.ref tA/\H20 tA=some (.tup [.ref g,.int tt]))\/(v=V.ref tB/\H20 tB=some (.tup [.ref ot,.int tt]))\/(v=V.ref tC/\H20 tC=some (.tup [.ref g,.int t18])):=by
    rcases hm with e | e | e
    ·exact .inl ⟨e,gA20⟩
    ·exact .inr (.inl ⟨e,gB20⟩)
    ·exact .inr (.inr ⟨e,gC20⟩)
   ·skip
    obtain ⟨rfl,gT⟩:=h;have gTi:=si _ _ gT;walk_at "w"
    exact ⟨x,r,sa,g,tt,a',c,H0,H0,mv,pt,lk,st,go,rfl,by lia,S2.same si,P1.same si,D,F,KF,Ra.same si,la,Rg.same si,lg,λu hu=>SG u (by lia),λHj sj=>by
     walk_at "w";exact ⟨si.trans sj,_,_,rfl⟩⟩
   ·skip
    obtain ⟨rfl,gT⟩:=h;have gTi:=si _ _ gT;walk_at "w"
    exact ⟨x,r,sa,ot,tt,a',c,H0,H0,mv,pt,lk,st,to,rfl,by lia,S2.same si,P1.same si,D,F,KF,Ra.same si,la,Ro.same si,lo,λu hu=>SO u (by lia),λHj sj=>by
     walk_at "w";exact ⟨si.trans sj,_,_,rfl⟩⟩
   ·skip
    obtain ⟨rfl,gT⟩:=h;have gTi:=si _ _ gT;walk_at "w"
    exact ⟨x,r,sa,g,t18,a',c,H0,H0,mv,pt,lk,st,go,rfl,by lia,S2.same si,P1.same si,D,F,KF,Ra.same si,la,Rg.same si,lg,λu hu=>SG u (by lia),λHj sj=>by
     walk_at "w";exact ⟨si.trans sj,_,_,rfl⟩⟩
  rintro σ' Hi ⟨si,y1,y2,rfl⟩;have pki:=Paired.imp' (λ_ _ z=>CB.same z si) pk20;have gki:=si _ _ gkt20;walk_at "w";refine ⟨x,sa,g,tt,a',c,H0,mv,pt,lk,st,go,rfl,by lia,S2.same si,D,F,KF,Ra.same si,la,Rg.same si,lg,SG,λkv2 ft2 fp2 fr2 pus2 prs2 Hm2 Hj gft2 sm2 sj2 nfr2 Gr2 nfp2 Gp2 SR2=>?_⟩;obtain ⟨rfl,rfl,rfl⟩:=SR2.uniq SR;have sij:=sm2.trans sj2
  obtain ⟨kp,kr,rfl,Gkp,Gkr⟩:∃kp kr,yk=[kv2,V.ref kp,V.ref kr]/\bP K H13 Hj kp pus2/\bP K H13 Hj kr prs2:=by
   cases pki with
   | cons h1 t=>cases t with
    | cons h2 t'=>cases t' with
     | cons h3 t'' =>
      cases t'';obtain rfl:=h1;obtain ⟨kp,rfl,_,Gkp⟩:=h2;obtain ⟨kr,rfl,_,Gkr⟩:=h3;exact ⟨kp,kr,rfl,Gkp.same sij,Gkr.same sij⟩
  have gkj:=sij _ _ gki;walk_at "w";rcases SR.2 with ⟨kk,rfl,_⟩ | ⟨rfl,_⟩
  ·refine ⟨_,_,OV RU yb yb,((kk:Int),pus2,prs2),((kk:Int),pus2,prs2),by decide,⟨ft2,_,_,_,rfl,lA.of gft2,rfl,Gp2.kind,(Gr2.same sj2).kind⟩,⟨kt,_,_,_,rfl,lA.of gkj,rfl,Gkp.kind,Gkr.kind⟩,?_⟩;rw[decide_eq_true rfl];exact k _
  ·refine ⟨_,_,OV S3 yb yb,((),pus2,prs2),((),pus2,prs2),by decide,⟨ft2,_,_,_,rfl,lA.of gft2,rfl,Gp2.kind,(Gr2.same sj2).kind⟩,⟨kt,_,_,_,rfl,lA.of gkj,rfl,Gkp.kind,Gkr.kind⟩,?_⟩;rw[decide_eq_true rfl];exact k _
end
theorem Im {P:List Value->Prop} (h:∀x0,P [x0]):∀us:List Value,us.length=1->P us
 | [x0],_=>h x0
theorem ln2 {P:List Value->Prop} (h:∀x0 x1,P [x0,x1]):∀us:List Value,us.length=2->P us
 | [x0,x1],_=>h x0 x1
theorem Jp {P:List Value->Prop} (h:∀x0 x1 x2,P [x0,x1,x2]):∀us:List Value,us.length=3->P us
 | [x0,x1,x2],_=>h x0 x1 x2
theorem Qm {P:List Value->Prop} (h:∀x0 x1 x2 x3,P [x0,x1,x2,x3]):∀us:List Value,us.length=4->P us
 | [x0,x1,x2,x3],_=>h x0 x1 x2 x3
theorem QT {P:List Value->Prop} (h:∀x0 x1 x2 x3 x4,P [x0,x1,x2,x3,x4]):∀us:List Value,us.length=5->P us
 | [x0,x1,x2,x3,x4],_=>h x0 x1 x2 x3 x4
theorem all_mk {l:W.OpenLaw} {w:World} {K:W.Frag} {h:Heap} {mg:Str->Option Value} {fa:Addr}
  {f0 f1 f2 f3 f4 f5 f6 f7 f8 f9 f10 f11 f12 f13 f14 f15 f16 f17 f18 f19 f20 f21 f22 f23 f24 f25 f26 f27 f28 f29 f30 f31 f32 f33 f34 f35 f36 f37 f38 f39 f40 f41 f42 f43 f44 f45 f46 f47 f48 f49 f50 f51 f52 f53 f54 f55 f56 f57 f58 f59 f60 f61 f62 f63 f64 f65 f66 f67 f68 f69 f70 f71 f72 f73:Addr} {od0 od1 od2 od3 od4 od5 od6 od7 od8 od9 od10 od11 od12 od13 od14 od15 od16 od17 od18 od19 od20 od21 od22 od23 od24 od25 od26 od27 od28 od29 od30 od31 od32 od33 od34 od35 od36 od37 od38 od39 od40 od41 od42 od43 od44 od45 od46 od47 od48 od49 od50 od51 od52 od53 od54 od55 od56 od57 od58 od59 od60 od61 od62 od63 od64 od65 od66 od67 od68 od69 od70 od71 od72 od73 an0 an1 an2 an3 an4 an5 an6 an7 an8 an9 an10 an11 an12 an13 an14 an15 an16 an17 an18 an19 an20 an21 an22 an23 an24 an25 an26 an27 an28 an29 an30 an31 an32 an33 an34 an35 an36 an37 an38 an39 an40 an41 an42 an43 an44 an45 an46 an47 an48 an49 an50 an51 an52 an53 an54 an55 an56 an57 an58 an59 an60 an61 an62 an63 an64 an65 an66 an67 an68 an69 an70 an71 an72 an73:Option Addr} {sl0 sl1 sl2 sl3 sl4 sl5 sl6 sl7 sl8 sl9 sl10 sl11 sl12 sl13 sl14 sl15 sl16 sl17 sl18 sl19 sl20 sl21 sl22 sl23 sl24 sl25 sl26 sl27 sl28 sl29 sl30 sl31 sl32 sl33 sl34 sl35 sl36 sl37 sl38 sl39 sl40 sl41 sl42 sl43 sl44 sl45 sl46 sl47 sl48 sl49 sl50 sl51 sl52 sl53 sl54 sl55 sl56 sl57 sl58 sl59 sl60 sl61 sl62 sl63 sl64 sl65 sl66 sl67 sl68 sl69 sl70 sl71 sl72 sl73:Array (Option Value)} {oc0 oc1 oc2 oc3 oc4 oc5 oc6 oc7 oc8 oc9 oc10 oc11 oc12 oc13 oc14 oc15 oc16 oc17 oc18 oc19 oc20 oc21 oc22 oc23 oc24 oc25 oc26 oc27 oc28 oc29 oc30 oc31 oc32 oc33 oc34 oc35 oc36 oc37 oc38 oc39 oc40 oc41 oc42 oc43 oc44 oc45 oc46 oc47 oc48 oc49 oc50 oc51 oc52 oc53 oc54 oc55 oc56 oc57 oc58 oc59 oc60 oc61 oc62 oc63 oc64 oc65 oc66 oc67 oc68 oc69 oc70 oc71 oc72 oc73 kV0 kV1 kV2 kV3 kV4 kV5 kV6 kV7 kV8 kV9 kV10 kV11 kV12 kV13 kV14 kV15 kV16 kV17 kV18 kV19 kV20 kV21 kV22 kV23 kV24 kV25 kV26 kV27 kV28 kV29 kV30 kV31 kV32 kV33 kV34 kV35 kV36 kV37 kV38 kV39 kV40 kV41 kV42 kV43 kV44 kV45 kV46 kV47 kV48 kV49 kV50 kV51 kV52 kV53 kV54 kV55 kV56 kV57 kV58 kV59 kV60 kV61 kV62 kV63 kV64 kV65 kV66 kV67 kV68 kV69 kV70 kV71 kV72 kV73 dc0 dc1 dc2 dc3 dc4 dc5 dc6 dc7 dc8 dc9 dc10 dc11 dc12 dc13 dc14 dc15 dc16 dc17 dc18 dc19 dc20 dc21 dc22 dc23 dc24 dc25 dc26 dc27 dc28 dc29 dc30 dc31 dc32 dc33 dc34 dc35 dc36 dc37 dc38 dc39 dc40 dc41 dc42 dc43 dc44 dc45 dc46 dc47 dc48 dc49 dc50 dc51 dc52 dc53 dc54 dc55 dc56 dc57 dc58 dc59 dc60 dc61 dc62 dc63 dc64 dc65 dc66 dc67 dc68 dc69 dc70 dc71 dc72 dc73 pm0 pm1 pm2 pm3 pm4 pm5 pm6 pm7 pm8 pm9 pm10 pm11 pm12 pm13 pm14 pm15 pm16 pm17 pm18 pm19 pm20 pm21 pm22 pm23 pm24 pm25 pm26 pm27 pm28 pm29 pm30 pm31 pm32 pm33 pm34 pm35 pm36 pm37 pm38 pm39 pm40 pm41 pm42 pm43 pm44 pm45 pm46 pm47 pm48 pm49 pm50 pm51 pm52 pm53 pm54 pm55 pm56 pm57 pm58 pm59 pm60 pm61 pm62 pm63 pm64 pm65 pm66 pm67 pm68 pm69 pm70 pm71 pm72 pm73 cd0 cd1 cd2 cd3 cd4 cd5 cd6 cd7 cd8 cd9 cd10 cd11 cd12 cd13 cd14 cd15 cd16 cd17 cd18 cd19 cd20 cd21 cd22 cd23 cd24 cd25 cd26 cd27 cd28 cd29 cd30 cd31 cd32 cd33 cd34 cd35 cd36 cd37 cd38 cd39 cd40 cd41 cd42 cd43 cd44 cd45 cd46 cd47 cd48 cd49 cd50 cd51 cd52 cd53 cd54 cd55 cd56 cd57 cd58 cd59 cd60 cd61 cd62 cd63 cd64 cd65 cd66 cd67 cd68 cd69 cd70 cd71 cd72 cd73 ct0 ct1 ct2 ct3 ct4 ct5 ct6 ct7 ct8 ct9 ct10 ct11 ct12 ct13 ct14 ct15 ct16 ct17 ct18 ct19 ct20 ct21 ct22 ct23 ct24 ct25 ct26 ct27 ct28 ct29 ct30 ct31 ct32 ct33 ct34 ct35 ct36 ct37 ct38 ct39 ct40 ct41 ct42 ct43 ct44 ct45 ct46 ct47 ct48 ct49 ct50 ct51 ct52 ct53 ct54 ct55 ct56 ct57 ct58 ct59 ct60 ct61 ct62 ct63 ct64 ct65 ct66 ct67 ct68 ct69 ct70 ct71 ct72 ct73:Value}
  (X:K.In h) (G:h.Ns mainGlobals mg) (hfa:mg "law"=some (.ref fa))
  {C:Addr} (aC:W.nsIn K mainGlobals "System"=some (some (.ref C)))
  (a0:W.nsIn K mainGlobals "_law_bag"=some (some (.ref f0))) (l0:K.lookup f0=some ⟨oc0,od0,.func (W.fnOf "_law_bag" "_law_bag" (br lO) (bf lO) (ax lO) .none kV0 dc0 pm0 an0 cd0 ct0),sl0⟩) (c0:W.codeIn K cd0 "_law_bag"=true) (k0:W.keepIn K (.ref f0)=true)
  (a1:W.nsIn K mainGlobals "_law_take"=some (some (.ref f1))) (l1:K.lookup f1=some ⟨oc1,od1,.func (W.fnOf "_law_take" "_law_take" (br jU) (bf jU) (ax jU) .none kV1 dc1 pm1 an1 cd1 ct1),sl1⟩) (c1:W.codeIn K cd1 "_law_take"=true) (k1:W.keepIn K (.ref f1)=true)
  (a2:W.nsIn K mainGlobals "_law_sizes"=some (some (.ref f2))) (l2:K.lookup f2=some ⟨oc2,od2,.func (W.fnOf "_law_sizes" "_law_sizes" (br gK) (bf gK) (ax gK) .none kV2 dc2 pm2 an2 cd2 ct2),sl2⟩) (c2:W.codeIn K cd2 "_law_sizes"=true) (k2:W.keepIn K (.ref f2)=true)
  (a3:W.nsIn K mainGlobals "_law_line"=some (some (.ref f3))) (l3:K.lookup f3=some ⟨oc3,od3,.func (W.fnOf "_law_line" "_law_line" (br j5) (bf j5) (ax j5) .none kV3 dc3 pm3 an3 cd3 ct3),sl3⟩) (c3:W.codeIn K cd3 "_law_line"=true) (k3:W.keepIn K (.ref f3)=true)
  (a4:W.nsIn K mainGlobals "_law_low"=some (some (.ref f4))) (l4:K.lookup f4=some ⟨oc4,od4,.func (W.fnOf "_law_low" "_law_low" (br lK) (bf lK) (ax lK) .none kV4 dc4 pm4 an4 cd4 ct4),sl4⟩) (c4:W.codeIn K cd4 "_law_low"=true) (k4:W.keepIn K (.ref f4)=true)
  (a5:W.nsIn K mainGlobals "_law_sum"=some (some (.ref f5))) (l5:K.lookup f5=some ⟨oc5,od5,.func (W.fnOf "_law_sum" "_law_sum" (br lH) (bf lH) (ax lH) .none kV5 dc5 pm5 an5 cd5 ct5),sl5⟩) (c5:W.codeIn K cd5 "_law_sum"=true) (k5:W.keepIn K (.ref f5)=true)
  (a6:W.nsIn K mainGlobals "_law_plus"=some (some (.ref f6))) (l6:K.lookup f6=some ⟨oc6,od6,.func (W.fnOf "_law_plus" "_law_plus" (br jX) (bf jX) (ax jX) .none kV6 dc6 pm6 an6 cd6 ct6),sl6⟩) (c6:W.codeIn K cd6 "_law_plus"=true) (k6:W.keepIn K (.ref f6)=true)
  (a7:W.nsIn K mainGlobals "_law_prod"=some (some (.ref f7))) (l7:K.lookup f7=some ⟨oc7,od7,.func (W.fnOf "_law_prod" "_law_prod" (br jW) (bf jW) (ax jW) .none kV7 dc7 pm7 an7 cd7 ct7),sl7⟩) (c7:W.codeIn K cd7 "_law_prod"=true) (k7:W.keepIn K (.ref f7)=true)
  (a8:W.nsIn K mainGlobals "_law_by"=some (some (.ref f8))) (l8:K.lookup f8=some ⟨oc8,od8,.func (W.fnOf "_law_by" "_law_by" (br pA) (bf pA) (ax pA) .none kV8 dc8 pm8 an8 cd8 ct8),sl8⟩) (c8:W.codeIn K cd8 "_law_by"=true) (k8:W.keepIn K (.ref f8)=true)
  (a9:W.nsIn K mainGlobals "_law_mixed"=some (some (.ref f9))) (l9:K.lookup f9=some ⟨oc9,od9,.func (W.fnOf "_law_mixed" "_law_mixed" (br iX) (bf iX) (ax iX) .none kV9 dc9 pm9 an9 cd9 ct9),sl9⟩) (c9:W.codeIn K cd9 "_law_mixed"=true) (k9:W.keepIn K (.ref f9)=true)
  (a10:W.nsIn K mainGlobals "_law_two_lines"=some (some (.ref f10))) (l10:K.lookup f10=some ⟨oc10,od10,.func (W.fnOf "_law_two_lines" "_law_two_lines" (br e8) (bf e8) (ax e8) .none kV10 dc10 pm10 an10 cd10 ct10),sl10⟩) (c10:W.codeIn K cd10 "_law_two_lines"=true) (k10:W.keepIn K (.ref f10)=true)
  (a11:W.nsIn K mainGlobals "_law_number"=some (some (.ref f11))) (l11:K.lookup f11=some ⟨oc11,od11,.func (W.fnOf "_law_number" "_law_number" (br h8) (bf h8) (ax h8) .none kV11 dc11 pm11 an11 cd11 ct11),sl11⟩) (c11:W.codeIn K cd11 "_law_number"=true) (k11:W.keepIn K (.ref f11)=true)
  (a12:W.nsIn K mainGlobals "_law_row"=some (some (.ref f12))) (l12:K.lookup f12=some ⟨oc12,od12,.func (W.fnOf "_law_row" "_law_row" (br lJ) (bf lJ) (ax lJ) .none kV12 dc12 pm12 an12 cd12 ct12),sl12⟩) (c12:W.codeIn K cd12 "_law_row"=true) (k12:W.keepIn K (.ref f12)=true)
  (a13:W.nsIn K mainGlobals "_law_move"=some (some (.ref f13))) (l13:K.lookup f13=some ⟨oc13,od13,.func (W.fnOf "_law_move" "_law_move" (br jZ) (bf jZ) (ax jZ) .none kV13 dc13 pm13 an13 cd13 ct13),sl13⟩) (c13:W.codeIn K cd13 "_law_move"=true) (k13:W.keepIn K (.ref f13)=true)
  (a14:W.nsIn K mainGlobals "_law_parts"=some (some (.ref f14))) (l14:K.lookup f14=some ⟨oc14,od14,.func (W.fnOf "_law_parts" "_law_parts" (br iW) (bf iW) (ax iW) .none kV14 dc14 pm14 an14 cd14 ct14),sl14⟩) (c14:W.codeIn K cd14 "_law_parts"=true) (k14:W.keepIn K (.ref f14)=true)
  (a15:W.nsIn K mainGlobals "_law_system"=some (some (.ref f15))) (l15:K.lookup f15=some ⟨oc15,od15,.func (W.fnOf "_law_system" "_law_system" (br hJ) (bf hJ) (ax hJ) .none kV15 dc15 pm15 an15 cd15 ct15),sl15⟩) (c15:W.codeIn K cd15 "_law_system"=true) (k15:W.keepIn K (.ref f15)=true)
  (a16:W.nsIn K mainGlobals "want_list"=some (some (.ref f16))) (l16:K.lookup f16=some ⟨oc16,od16,.func (W.fnOf "want_list" "want_list" (br jP) (bf jP) (ax jP) .none kV16 dc16 pm16 an16 cd16 ct16),sl16⟩) (c16:W.codeIn K cd16 "want_list"=true) (k16:W.keepIn K (.ref f16)=true)
  (a17:W.nsIn K mainGlobals "is_whole"=some (some (.ref f17))) (l17:K.lookup f17=some ⟨oc17,od17,.func (W.fnOf "is_whole" "is_whole" (br lG) (bf lG) (ax lG) .none kV17 dc17 pm17 an17 cd17 ct17),sl17⟩) (c17:W.codeIn K cd17 "is_whole"=true) (k17:W.keepIn K (.ref f17)=true)
  (a18:W.nsIn K mainGlobals "common_divisor"=some (some (.ref f18))) (l18:K.lookup f18=some ⟨oc18,od18,.func (W.fnOf "common_divisor" "common_divisor" (br eY) (bf eY) (ax eY) .none kV18 dc18 pm18 an18 cd18 ct18),sl18⟩) (c18:W.codeIn K cd18 "common_divisor"=true) (k18:W.keepIn K (.ref f18)=true)
  (a19:W.nsIn K mainGlobals "is_number"=some (some (.ref f19))) (l19:K.lookup f19=some ⟨oc19,od19,.func (W.fnOf "is_number" "is_number" (br jS) (bf jS) (ax jS) .none kV19 dc19 pm19 an19 cd19 ct19),sl19⟩) (c19:W.codeIn K cd19 "is_number"=true) (k19:W.keepIn K (.ref f19)=true)
  (a20:W.nsIn K mainGlobals "is_row"=some (some (.ref f20))) (l20:K.lookup f20=some ⟨oc20,od20,.func (W.fnOf "is_row" "is_row" (br rZ) (bf rZ) (ax rZ) .none kV20 dc20 pm20 an20 cd20 ct20),sl20⟩) (c20:W.codeIn K cd20 "is_row"=true) (k20:W.keepIn K (.ref f20)=true)
  (a21:W.nsIn K mainGlobals "copied_rows"=some (some (.ref f21))) (l21:K.lookup f21=some ⟨oc21,od21,.func (W.fnOf "copied_rows" "copied_rows" (br gZ) (bf gZ) (ax gZ) .none kV21 dc21 pm21 an21 cd21 ct21),sl21⟩) (c21:W.codeIn K cd21 "copied_rows"=true) (k21:W.keepIn K (.ref f21)=true)
  (a22:W.findIn K (.ref C) "__init__"=some (some (.ref f22))) (i22:W.isFn K (.ref f22)=true) (l22:K.lookup f22=some ⟨oc22,od22,.func (W.fnOf "__init__" "System.__init__" (br eJ) (bf eJ) (ax eJ) .none kV22 dc22 pm22 an22 cd22 ct22),sl22⟩) (c22:W.codeIn K cd22 "System.__init__"=true) (k22:W.keepIn K (.ref f22)=true)
  (a23:W.nsIn K mainGlobals "_law_copied"=some (some (.ref f23))) (l23:K.lookup f23=some ⟨oc23,od23,.func (W.fnOf "_law_copied" "_law_copied" (br ia) (bf ia) (ax ia) .none kV23 dc23 pm23 an23 cd23 ct23),sl23⟩) (c23:W.codeIn K cd23 "_law_copied"=true) (k23:W.keepIn K (.ref f23)=true)
  (a24:W.nsIn K mainGlobals "_law_made"=some (some (.ref f24))) (l24:K.lookup f24=some ⟨oc24,od24,.func (W.fnOf "_law_made" "_law_made" (br j4) (bf j4) (ax j4) .none kV24 dc24 pm24 an24 cd24 ct24),sl24⟩) (c24:W.codeIn K cd24 "_law_made"=true) (k24:W.keepIn K (.ref f24)=true)
  (a25:W.nsIn K mainGlobals "_law_steps"=some (some (.ref f25))) (l25:K.lookup f25=some ⟨oc25,od25,.func (W.fnOf "_law_steps" "_law_steps" (br iT) (bf iT) (ax iT) .none kV25 dc25 pm25 an25 cd25 ct25),sl25⟩) (c25:W.codeIn K cd25 "_law_steps"=true) (k25:W.keepIn K (.ref f25)=true)
  (a26:W.nsIn K mainGlobals "_law_dot"=some (some (.ref f26))) (l26:K.lookup f26=some ⟨oc26,od26,.func (W.fnOf "_law_dot" "_law_dot" (br lN) (bf lN) (ax lN) .none kV26 dc26 pm26 an26 cd26 ct26),sl26⟩) (c26:W.codeIn K cd26 "_law_dot"=true) (k26:W.keepIn K (.ref f26)=true)
  (a27:W.nsIn K mainGlobals "_law_on"=some (some (.ref f27))) (l27:K.lookup f27=some ⟨oc27,od27,.func (W.fnOf "_law_on" "_law_on" (br pz) (bf pz) (ax pz) .none kV27 dc27 pm27 an27 cd27 ct27),sl27⟩) (c27:W.codeIn K cd27 "_law_on"=true) (k27:W.keepIn K (.ref f27)=true)
  (a28:W.nsIn K mainGlobals "_law_next"=some (some (.ref f28))) (l28:K.lookup f28=some ⟨oc28,od28,.func (W.fnOf "_law_next" "_law_next" (br jY) (bf jY) (ax jY) .none kV28 dc28 pm28 an28 cd28 ct28),sl28⟩) (c28:W.codeIn K cd28 "_law_next"=true) (k28:W.keepIn K (.ref f28)=true)
  (a29:W.nsIn K mainGlobals "_law_end"=some (some (.ref f29))) (l29:K.lookup f29=some ⟨oc29,od29,.func (W.fnOf "_law_end" "_law_end" (br lM) (bf lM) (ax lM) .none kV29 dc29 pm29 an29 cd29 ct29),sl29⟩) (c29:W.codeIn K cd29 "_law_end"=true) (k29:W.keepIn K (.ref f29)=true)
  (a30:W.nsIn K mainGlobals "_law_puts"=some (some (.ref f30))) (l30:K.lookup f30=some ⟨oc30,od30,.func (W.fnOf "_law_puts" "_law_puts" (br jV) (bf jV) (ax jV) .none kV30 dc30 pm30 an30 cd30 ct30),sl30⟩) (c30:W.codeIn K cd30 "_law_puts"=true) (k30:W.keepIn K (.ref f30)=true)
  (a31:W.nsIn K mainGlobals "_law_goal"=some (some (.ref f31))) (l31:K.lookup f31=some ⟨oc31,od31,.func (W.fnOf "_law_goal" "_law_goal" (br j8) (bf j8) (ax j8) .none kV31 dc31 pm31 an31 cd31 ct31),sl31⟩) (c31:W.codeIn K cd31 "_law_goal"=true) (k31:W.keepIn K (.ref f31)=true)
  (a32:W.nsIn K mainGlobals "tops_over"=some (some (.ref f32))) (l32:K.lookup f32=some ⟨oc32,od32,.func (W.fnOf "tops_over" "tops_over" (br jQ) (bf jQ) (ax jQ) .none kV32 dc32 pm32 an32 cd32 ct32),sl32⟩) (c32:W.codeIn K cd32 "tops_over"=true) (k32:W.keepIn K (.ref f32)=true)
  (a33:W.nsIn K mainGlobals "common_multiple"=some (some (.ref f33))) (l33:K.lookup f33=some ⟨oc33,od33,.func (W.fnOf "common_multiple" "common_multiple" (br eI) (bf eI) (ax eI) .none kV33 dc33 pm33 an33 cd33 ct33),sl33⟩) (c33:W.codeIn K cd33 "common_multiple"=true) (k33:W.keepIn K (.ref f33)=true)
  (a34:W.nsIn K mainGlobals "common_bottom"=some (some (.ref f34))) (l34:K.lookup f34=some ⟨oc34,od34,.func (W.fnOf "common_bottom" "common_bottom" (br fA) (bf fA) (ax fA) .none kV34 dc34 pm34 an34 cd34 ct34),sl34⟩) (c34:W.codeIn K cd34 "common_bottom"=true) (k34:W.keepIn K (.ref f34)=true)
  (a35:W.nsIn K mainGlobals "first_with"=some (some (.ref f35))) (l35:K.lookup f35=some ⟨oc35,od35,.func (W.fnOf "first_with" "first_with" (br iQ) (bf iQ) (ax iQ) .none kV35 dc35 pm35 an35 cd35 ct35),sl35⟩) (c35:W.codeIn K cd35 "first_with"=true) (k35:W.keepIn K (.ref f35)=true)
  (a36:W.nsIn K mainGlobals "cleared"=some (some (.ref f36))) (l36:K.lookup f36=some ⟨oc36,od36,.func (W.fnOf "cleared" "cleared" (br ph) (bf ph) (ax ph) .none kV36 dc36 pm36 an36 cd36 ct36),sl36⟩) (c36:W.codeIn K cd36 "cleared"=true) (k36:W.keepIn K (.ref f36)=true)
  (a37:W.nsIn K mainGlobals "brought_up"=some (some (.ref f37))) (l37:K.lookup f37=some ⟨oc37,od37,.func (W.fnOf "brought_up" "brought_up" (br iS) (bf iS) (ax iS) .none kV37 dc37 pm37 an37 cd37 ct37),sl37⟩) (c37:W.codeIn K cd37 "brought_up"=true) (k37:W.keepIn K (.ref f37)=true)
  (a38:W.nsIn K mainGlobals "swept"=some (some (.ref f38))) (l38:K.lookup f38=some ⟨oc38,od38,.func (W.fnOf "swept" "swept" (br vZ) (bf vZ) (ax vZ) .none kV38 dc38 pm38 an38 cd38 ct38),sl38⟩) (c38:W.codeIn K cd38 "swept"=true) (k38:W.keepIn K (.ref f38)=true)
  (a39:W.nsIn K mainGlobals "lowest"=some (some (.ref f39))) (l39:K.lookup f39=some ⟨oc39,od39,.func (W.fnOf "lowest" "lowest" (br rY) (bf rY) (ax rY) .none kV39 dc39 pm39 an39 cd39 ct39),sl39⟩) (c39:W.codeIn K cd39 "lowest"=true) (k39:W.keepIn K (.ref f39)=true)
  (a40:W.nsIn K mainGlobals "reduced"=some (some (.ref f40))) (l40:K.lookup f40=some ⟨oc40,od40,.func (W.fnOf "reduced" "reduced" (br o8) (bf o8) (ax o8) .none kV40 dc40 pm40 an40 cd40 ct40),sl40⟩) (c40:W.codeIn K cd40 "reduced"=true) (k40:W.keepIn K (.ref f40)=true)
  (a41:W.nsIn K mainGlobals "row_dot"=some (some (.ref f41))) (l41:K.lookup f41=some ⟨oc41,od41,.func (W.fnOf "row_dot" "row_dot" (br o7) (bf o7) (ax o7) .none kV41 dc41 pm41 an41 cd41 ct41),sl41⟩) (c41:W.codeIn K cd41 "row_dot"=true) (k41:W.keepIn K (.ref f41)=true)
  (a42:W.nsIn K mainGlobals "grid_on"=some (some (.ref f42))) (l42:K.lookup f42=some ⟨oc42,od42,.func (W.fnOf "grid_on" "grid_on" (br pe) (bf pe) (ax pe) .none kV42 dc42 pm42 an42 cd42 ct42),sl42⟩) (c42:W.codeIn K cd42 "grid_on"=true) (k42:W.keepIn K (.ref f42)=true)
  (a43:W.nsIn K mainGlobals "moved_rows"=some (some (.ref f43))) (l43:K.lookup f43=some ⟨oc43,od43,.func (W.fnOf "moved_rows" "moved_rows" (br iP) (bf iP) (ax iP) .none kV43 dc43 pm43 an43 cd43 ct43),sl43⟩) (c43:W.codeIn K cd43 "moved_rows"=true) (k43:W.keepIn K (.ref f43)=true)
  (a44:W.nsIn K mainGlobals "reach_grown"=some (some (.ref f44))) (l44:K.lookup f44=some ⟨oc44,od44,.func (W.fnOf "reach_grown" "reach_grown" (br gW) (bf gW) (ax gW) .none kV44 dc44 pm44 an44 cd44 ct44),sl44⟩) (c44:W.codeIn K cd44 "reach_grown"=true) (k44:W.keepIn K (.ref f44)=true)
  (a45:W.nsIn K mainGlobals "flat"=some (some (.ref f45))) (l45:K.lookup f45=some ⟨oc45,od45,.func (W.fnOf "flat" "flat" (br zL) (bf zL) (ax zL) .none kV45 dc45 pm45 an45 cd45 ct45),sl45⟩) (c45:W.codeIn K cd45 "flat"=true) (k45:W.keepIn K (.ref f45)=true)
  (a46:W.nsIn K mainGlobals "additions"=some (some (.ref f46))) (l46:K.lookup f46=some ⟨oc46,od46,.func (W.fnOf "additions" "additions" (br jT) (bf jT) (ax jT) .none kV46 dc46 pm46 an46 cd46 ct46),sl46⟩) (c46:W.codeIn K cd46 "additions"=true) (k46:W.keepIn K (.ref f46)=true)
  (a47:W.nsIn K mainGlobals "nought_row"=some (some (.ref f47))) (l47:K.lookup f47=some ⟨oc47,od47,.func (W.fnOf "nought_row" "nought_row" (br iO) (bf iO) (ax iO) .none kV47 dc47 pm47 an47 cd47 ct47),sl47⟩) (c47:W.codeIn K cd47 "nought_row"=true) (k47:W.keepIn K (.ref f47)=true)
  (a48:W.nsIn K mainGlobals "solved"=some (some (.ref f48))) (l48:K.lookup f48=some ⟨oc48,od48,.func (W.fnOf "solved" "solved" (br rX) (bf rX) (ax rX) .none kV48 dc48 pm48 an48 cd48 ct48),sl48⟩) (c48:W.codeIn K cd48 "solved"=true) (k48:W.keepIn K (.ref f48)=true)
  (a49:W.nsIn K mainGlobals "grid_turned"=some (some (.ref f49))) (l49:K.lookup f49=some ⟨oc49,od49,.func (W.fnOf "grid_turned" "grid_turned" (br gY) (bf gY) (ax gY) .none kV49 dc49 pm49 an49 cd49 ct49),sl49⟩) (c49:W.codeIn K cd49 "grid_turned"=true) (k49:W.keepIn K (.ref f49)=true)
  (a50:W.nsIn K mainGlobals "solve"=some (some (.ref f50))) (l50:K.lookup f50=some ⟨oc50,od50,.func (W.fnOf "solve" "solve" (br v5) (bf v5) (ax v5) .none kV50 dc50 pm50 an50 cd50 ct50),sl50⟩) (c50:W.codeIn K cd50 "solve"=true) (k50:W.keepIn K (.ref f50)=true)
  (a51:W.nsIn K mainGlobals "weights_for"=some (some (.ref f51))) (l51:K.lookup f51=some ⟨oc51,od51,.func (W.fnOf "weights_for" "weights_for" (br gV) (bf gV) (ax gV) .none kV51 dc51 pm51 an51 cd51 ct51),sl51⟩) (c51:W.codeIn K cd51 "weights_for"=true) (k51:W.keepIn K (.ref f51)=true)
  (a52:W.nsIn K mainGlobals "minus"=some (some (.ref f52))) (l52:K.lookup f52=some ⟨oc52,od52,.func (W.fnOf "minus" "minus" (br v7) (bf v7) (ax v7) .none kV52 dc52 pm52 an52 cd52 ct52),sl52⟩) (c52:W.codeIn K cd52 "minus"=true) (k52:W.keepIn K (.ref f52)=true)
  (a53:W.nsIn K mainGlobals "row_minus"=some (some (.ref f53))) (l53:K.lookup f53=some ⟨oc53,od53,.func (W.fnOf "row_minus" "row_minus" (br jR) (bf jR) (ax jR) .none kV53 dc53 pm53 an53 cd53 ct53),sl53⟩) (c53:W.codeIn K cd53 "row_minus"=true) (k53:W.keepIn K (.ref f53)=true)
  (a54:W.findIn K (.ref C) "moved"=some (some (.ref f54))) (i54:W.isFn K (.ref f54)=true) (l54:K.lookup f54=some ⟨oc54,od54,.func (W.fnOf "moved" "System.moved" (br fV) (bf fV) (ax fV) .none kV54 dc54 pm54 an54 cd54 ct54),sl54⟩) (c54:W.codeIn K cd54 "System.moved"=true) (k54:W.keepIn K (.ref f54)=true)
  (a55:W.nsIn K mainGlobals "course"=some (some (.ref f55))) (l55:K.lookup f55=some ⟨oc55,od55,.func (W.fnOf "course" "course" (br sk) (bf sk) (ax sk) .none kV55 dc55 pm55 an55 cd55 ct55),sl55⟩) (c55:W.codeIn K cd55 "course"=true) (k55:W.keepIn K (.ref f55)=true)
  (a56:W.nsIn K mainGlobals "nothing_for"=some (some (.ref f56))) (l56:K.lookup f56=some ⟨oc56,od56,.func (W.fnOf "nothing_for" "nothing_for" (br gX) (bf gX) (ax gX) .none kV56 dc56 pm56 an56 cd56 ct56),sl56⟩) (c56:W.codeIn K cd56 "nothing_for"=true) (k56:W.keepIn K (.ref f56)=true)
  (a57:W.nsIn K mainGlobals "lacking"=some (some (.ref f57))) (l57:K.lookup f57=some ⟨oc57,od57,.func (W.fnOf "lacking" "lacking" (br o9) (bf o9) (ax o9) .none kV57 dc57 pm57 an57 cd57 ct57),sl57⟩) (c57:W.codeIn K cd57 "lacking"=true) (k57:W.keepIn K (.ref f57)=true)
  (a58:W.nsIn K mainGlobals "cut"=some (some (.ref f58))) (l58:K.lookup f58=some ⟨oc58,od58,.func (W.fnOf "cut" "cut" (br DC) (bf DC) (ax DC) .none kV58 dc58 pm58 an58 cd58 ct58),sl58⟩) (c58:W.codeIn K cd58 "cut"=true) (k58:W.keepIn K (.ref f58)=true)
  (a59:W.nsIn K mainGlobals "come"=some (some (.ref f59))) (l59:K.lookup f59=some ⟨oc59,od59,.func (W.fnOf "come" "come" (br zM) (bf zM) (ax zM) .none kV59 dc59 pm59 an59 cd59 ct59),sl59⟩) (c59:W.codeIn K cd59 "come"=true) (k59:W.keepIn K (.ref f59)=true)
  (a60:W.nsIn K mainGlobals "soonest"=some (some (.ref f60))) (l60:K.lookup f60=some ⟨oc60,od60,.func (W.fnOf "soonest" "soonest" (br o6) (bf o6) (ax o6) .none kV60 dc60 pm60 an60 cd60 ct60),sl60⟩) (c60:W.codeIn K cd60 "soonest"=true) (k60:W.keepIn K (.ref f60)=true)
  (a61:W.nsIn K mainGlobals "_law_kept"=some (some (.ref f61))) (l61:K.lookup f61=some ⟨oc61,od61,.func (W.fnOf "_law_kept" "_law_kept" (br j7) (bf j7) (ax j7) .none kV61 dc61 pm61 an61 cd61 ct61),sl61⟩) (c61:W.codeIn K cd61 "_law_kept"=true) (k61:W.keepIn K (.ref f61)=true)
  (a62:W.nsIn K mainGlobals "_law_spoil"=some (some (.ref f62))) (l62:K.lookup f62=some ⟨oc62,od62,.func (W.fnOf "_law_spoil" "_law_spoil" (br iU) (bf iU) (ax iU) .none kV62 dc62 pm62 an62 cd62 ct62),sl62⟩) (c62:W.codeIn K cd62 "_law_spoil"=true) (k62:W.keepIn K (.ref f62)=true)
  (a63:W.nsIn K mainGlobals "_law_is_number"=some (some (.ref f63))) (l63:K.lookup f63=some ⟨oc63,od63,.func (W.fnOf "_law_is_number" "_law_is_number" (br fb) (bf fb) (ax fb) .none kV63 dc63 pm63 an63 cd63 ct63),sl63⟩) (c63:W.codeIn K cd63 "_law_is_number"=true) (k63:W.keepIn K (.ref f63)=true)
  (a64:W.nsIn K mainGlobals "_law_is_row"=some (some (.ref f64))) (l64:K.lookup f64=some ⟨oc64,od64,.func (W.fnOf "_law_is_row" "_law_is_row" (br h9) (bf h9) (ax h9) .none kV64 dc64 pm64 an64 cd64 ct64),sl64⟩) (c64:W.codeIn K cd64 "_law_is_row"=true) (k64:W.keepIn K (.ref f64)=true)
  (a65:W.nsIn K mainGlobals "_law_is_grid"=some (some (.ref f65))) (l65:K.lookup f65=some ⟨oc65,od65,.func (W.fnOf "_law_is_grid" "_law_is_grid" (br fU) (bf fU) (ax fU) .none kV65 dc65 pm65 an65 cd65 ct65),sl65⟩) (c65:W.codeIn K cd65 "_law_is_grid"=true) (k65:W.keepIn K (.ref f65)=true)
  (a66:W.nsIn K mainGlobals "_law_leads"=some (some (.ref f66))) (l66:K.lookup f66=some ⟨oc66,od66,.func (W.fnOf "_law_leads" "_law_leads" (br iZ) (bf iZ) (ax iZ) .none kV66 dc66 pm66 an66 cd66 ct66),sl66⟩) (c66:W.codeIn K cd66 "_law_leads"=true) (k66:W.keepIn K (.ref f66)=true)
  (a67:W.nsIn K mainGlobals "_law_added"=some (some (.ref f67))) (l67:K.lookup f67=some ⟨oc67,od67,.func (W.fnOf "_law_added" "_law_added" (br i8) (bf i8) (ax i8) .none kV67 dc67 pm67 an67 cd67 ct67),sl67⟩) (c67:W.codeIn K cd67 "_law_added"=true) (k67:W.keepIn K (.ref f67)=true)
  (a68:W.nsIn K mainGlobals "_law_less"=some (some (.ref f68))) (l68:K.lookup f68=some ⟨oc68,od68,.func (W.fnOf "_law_less" "_law_less" (br j6) (bf j6) (ax j6) .none kV68 dc68 pm68 an68 cd68 ct68),sl68⟩) (c68:W.codeIn K cd68 "_law_less"=true) (k68:W.keepIn K (.ref f68)=true)
  (a69:W.nsIn K mainGlobals "_law_minus"=some (some (.ref f69))) (l69:K.lookup f69=some ⟨oc69,od69,.func (W.fnOf "_law_minus" "_law_minus" (br iY) (bf iY) (ax iY) .none kV69 dc69 pm69 an69 cd69 ct69),sl69⟩) (c69:W.codeIn K cd69 "_law_minus"=true) (k69:W.keepIn K (.ref f69)=true)
  (a70:W.nsIn K mainGlobals "_law_alone"=some (some (.ref f70))) (l70:K.lookup f70=some ⟨oc70,od70,.func (W.fnOf "_law_alone" "_law_alone" (br i5) (bf i5) (ax i5) .none kV70 dc70 pm70 an70 cd70 ct70),sl70⟩) (c70:W.codeIn K cd70 "_law_alone"=true) (k70:W.keepIn K (.ref f70)=true)
  (a71:W.nsIn K mainGlobals "_law_priced"=some (some (.ref f71))) (l71:K.lookup f71=some ⟨oc71,od71,.func (W.fnOf "_law_priced" "_law_priced" (br hZ) (bf hZ) (ax hZ) .none kV71 dc71 pm71 an71 cd71 ct71),sl71⟩) (c71:W.codeIn K cd71 "_law_priced"=true) (k71:W.keepIn K (.ref f71)=true)
  (a72:W.nsIn K mainGlobals "_law_right"=some (some (.ref f72))) (l72:K.lookup f72=some ⟨oc72,od72,.func (W.fnOf "_law_right" "_law_right" (br iV) (bf iV) (ax iV) .none kV72 dc72 pm72 an72 cd72 ct72),sl72⟩) (c72:W.codeIn K cd72 "_law_right"=true) (k72:W.keepIn K (.ref f72)=true)
  (a73:W.nsIn K mainGlobals "law"=some (some (.ref f73))) (l73:K.lookup f73=some ⟨oc73,od73,.func (W.fnOf "law" "law" (br DB) (bf DB) (ax DB) .none kV73 dc73 pm73 an73 cd73 ct73),sl73⟩) (c73:W.codeIn K cd73 "law"=true) (k73:W.keepIn K (.ref f73)=true)
  {m0:Addr} {mo0:Option Addr} {mn0:Nat} {ms0:Array (Option Value)} {mt0_0 mt0_1:Tok} (ca0:W.nsIn K mainGlobals "NOUGHT"=some (some (.ref m0))) (cl0:K.lookup m0=some ⟨.type "tuple",mo0,.seq #[.int 0 mt0_0,.int 1 mt0_1] mn0,ms0⟩)
  {m1:Addr} {mo1:Option Addr} {mn1:Nat} {ms1:Array (Option Value)} {mt1_0 mt1_1:Tok} (ca1:W.nsIn K mainGlobals "ONE"=some (some (.ref m1))) (cl1:K.lookup m1=some ⟨.type "tuple",mo1,.seq #[.int 1 mt1_0,.int 1 mt1_1] mn1,ms1⟩)
  {it0:Tok} (ci0:W.nsIn K mainGlobals "MOST_STATES"=some (some (.int 8 it0)))
  {it1:Tok} (ci1:W.nsIn K mainGlobals "MOST_PUTS"=some (some (.int 4 it1)))
  {it2:Tok} (ci2:W.nsIn K mainGlobals "MOST_LOOKS"=some (some (.int 4 it2)))
  (pg:W.plainGet K C Str.empty=true) (hd:W.hasDictIn K C=true) (po:W.plainOver K C=true) (sa:W.findIn K (.ref C) "__setattr__"=some (some (.builtin "object.__setattr__"))) (mk:W.makesIn K C=true) (kc:W.keepIn K (.ref C)=true)
  (n_move:W.findIn K (.ref C) "move"=some none)
  (n_states:W.findIn K (.ref C) "states"=some none)
  (n_put:W.findIn K (.ref C) "put"=some none)
  (n_ins:W.findIn K (.ref C) "ins"=some none)
  (n_look:W.findIn K (.ref C) "look"=some none)
  (n_outs:W.findIn K (.ref C) "outs"=some none)
  (z_abs:W.nsIn K mainGlobals "abs"=some none)
  (z_len:W.nsIn K mainGlobals "len"=some none)
  (z_min:W.nsIn K mainGlobals "min"=some none)
  (z_int:W.nsIn K mainGlobals "int"=some none)
  (z_range:W.nsIn K mainGlobals "range"=some none)
  (z_isinstance:W.nsIn K mainGlobals "isinstance"=some none)
  (z_list:W.nsIn K mainGlobals "list"=some none)
  (z_bool:W.nsIn K mainGlobals "bool"=some none)
  (z_tuple:W.nsIn K mainGlobals "tuple"=some none)
  (z_all:W.nsIn K mainGlobals "all"=some none)
  (z_enumerate:W.nsIn K mainGlobals "enumerate"=some none)
  (z_max:W.nsIn K mainGlobals "max"=some none)
  (z_zip:W.nsIn K mainGlobals "zip"=some none)
  (z_sum:W.nsIn K mainGlobals "sum"=some none)
  (z_reversed:W.nsIn K mainGlobals "reversed"=some none)
  : ∃fd:FuncData,(∀(s:Shared) (v:Value),BindsTo s fd ⟨[v],[]⟩ [("_law_script",v)])/\∀base:Heap,K.In base->base.Ns mainGlobals mg->cK l.prog w K mg base gi 11 fa fd ["_law_script"] (Bv K):=by
 have e:=hfa.symm.trans (W.mg_of X G a73);cases e;have F0:=bO (st:=lO) l0 c0 k0;have F1:=bO (st:=jU) l1 c1 k1;have F2:=bO (st:=gK) l2 c2 k2;have F3:=bO (st:=j5) l3 c3 k3;have F4:=bO (st:=lK) l4 c4 k4;have F5:=bO (st:=lH) l5 c5 k5;have F6:=bO (st:=jX) l6 c6 k6;have F7:=bO (st:=jW) l7 c7 k7;have F8:=bO (st:=pA) l8 c8 k8;have F9:=bO (st:=iX) l9 c9 k9;have F10:=bO (st:=e8) l10 c10 k10;have F11:=bO (st:=h8) l11 c11 k11;have F12:=bO (st:=lJ) l12 c12 k12;have F13:=bO (st:=jZ) l13 c13 k13;have F14:=bO (st:=iW) l14 c14 k14;have F15:=bO (st:=hJ) l15 c15 k15;have F16:=bO (st:=jP) l16 c16 k16;have F17:=bO (st:=lG) l17 c17 k17;have F18:=bO (st:=eY) l18 c18 k18;have F19:=bO (st:=jS) l19 c19 k19;have F20:=bO (st:=rZ) l20 c20 k20;have F21:=bO (st:=gZ) l21 c21 k21;have F22:=bO (st:=eJ) l22 c22 k22;have F23:=bO (st:=ia) l23 c23 k23;have F24:=bO (st:=j4) l24 c24 k24;have F25:=bO (st:=iT) l25 c25 k25;have F26:=bO (st:=lN) l26 c26 k26;have F27:=bO (st:=pz) l27 c27 k27;have F28:=bO (st:=jY) l28 c28 k28;have F29:=bO (st:=lM) l29 c29 k29;have F30:=bO (st:=jV) l30 c30 k30;have F31:=bO (st:=j8) l31 c31 k31;have F32:=bO (st:=jQ) l32 c32 k32;have F33:=bO (st:=eI) l33 c33 k33;have F34:=bO (st:=fA) l34 c34 k34;have F35:=bO (st:=iQ) l35 c35 k35;have F36:=bO (st:=ph) l36 c36 k36;have F37:=bO (st:=iS) l37 c37 k37;have F38:=bO (st:=vZ) l38 c38 k38;have F39:=bO (st:=rY) l39 c39 k39;have F40:=bO (st:=o8) l40 c40 k40;have F41:=bO (st:=o7) l41 c41 k41;have F42:=bO (st:=pe) l42 c42 k42;have F43:=bO (st:=iP) l43 c43 k43;have F44:=bO (st:=gW) l44 c44 k44;have F45:=bO (st:=zL) l45 c45 k45;have F46:=bO (st:=jT) l46 c46 k46;have F47:=bO (st:=iO) l47 c47 k47;have F48:=bO (st:=rX) l48 c48 k48;have F49:=bO (st:=gY) l49 c49 k49;have F50:=bO (st:=v5) l50 c50 k50;have F51:=bO (st:=gV) l51 c51 k51;have F52:=bO (st:=v7) l52 c52 k52;have F53:=bO (st:=jR) l53 c53 k53;have F54:=bO (st:=fV) l54 c54 k54;have F55:=bO (st:=sk) l55 c55 k55;have F56:=bO (st:=gX) l56 c56 k56;have F57:=bO (st:=o9) l57 c57 k57;have F58:=bO (st:=DC) l58 c58 k58;have F59:=bO (st:=zM) l59 c59 k59;have F60:=bO (st:=o6) l60 c60 k60;have F61:=bO (st:=j7) l61 c61 k61;have F62:=bO (st:=iU) l62 c62 k62;have F63:=bO (st:=fb) l63 c63 k63;have F64:=bO (st:=h9) l64 c64 k64;have F65:=bO (st:=fU) l65 c65 k65;have F66:=bO (st:=iZ) l66 c66 k66;have F67:=bO (st:=i8) l67 c67 k67;have F68:=bO (st:=j6) l68 c68 k68;have F69:=bO (st:=iY) l69 c69 k69;have F70:=bO (st:=i5) l70 c70 k70;have F71:=bO (st:=hZ) l71 c71 k71;have F72:=bO (st:=iV) l72 c72 k72;have F73:=bO (st:=DB) l73 c73 k73
 have T:Txt K mg { uf:=f0,tL:=_,qU:=f1,qo:=_,oO:=f2,oy:=_,rg:=f3,qF:=_,t8:=f4,tI:=_,tY:=f5,tG:=_,qX:=f6,qB:=_,qW:=f7,qA:=_,w5:=f8,wJ:=_,oR:=f9,oB:=_,jl:=f10,jf:=_,mY:=f11,mK:=_,tZ:=f12,tH:=_,qZ:=f13,qD:=_,oQ:=f14,oA:=_,mW:=f15,mI:=_,qP:=f16,p9:=_,tW:=f17,tF:=_,jk:=f18,je:=_,qS:=f19,qh:=_,zh:=f20,yQ:=_,mV:=f21,mH:=_,ir:=f22,ip:=_,nh:=f23,mM:=_,rf:=f24,qE:=_,oN:=f25,ox:=_,ue:=f26,tK:=_,wZ:=f27,wI:=_,qY:=f28,qC:=_,uc:=f29,tJ:=_,qV:=f30,qq:=_,rj:=f31,qH:=_,qQ:=f32,qe:=_,iq:=f33,il:=_,jF:=f34,jD:=_,oK:=f35,ou:=_,wY:=f36,wH:=_,oM:=f37,ow:=_,A7:=f38,A4:=_,zg:=f39,yP:=_,wV:=f40,wD:=_,wU:=f41,wC:=_,wX:=f42,wG:=_,oJ:=f43,oq:=_,mS:=f44,mE:=_,Fh:=f45,E5:=_,qT:=f46,qi:=_,oI:=f47,oo:=_,zf:=f48,yO:=_,mU:=f49,mG:=_,A8:=f50,A5:=_,mR:=f51,mD:=_,A9:=f52,A6:=_,qR:=f53,qg:=_,kT:=f54,kQ:=_,zi:=f55,yR:=_,mT:=f56,mF:=_,wW:=f57,wF:=_,JJ:=f58,JC:=_,Fi:=f59,E6:=_,wQ:=f60,wB:=_,nM:=f61,nH:=_,kR:=f62,kN:=_,jm:=f63,jg:=_,mZ:=f64,mL:=_,kS:=f65,kO:=_,oT:=f66,oE:=_,oV:=f67,oG:=_,rh:=f68,qG:=_,oS:=f69,oC:=_,oU:=f70,oF:=_,mX:=f71,mJ:=_,oP:=f72,oz:=_,MO:=fa,MB:=_,a_NOUGHT:=m0,a_ONE:=m1,t_MOST_STATES:=it0,t_MOST_PUTS:=it1,t_MOST_LOOKS:=it2,a_System:=C }:={
  Am:=W.mg_of X G a0
  Cw:=F0.binds (ps:=["_law_script"]) λ_ _ _ _ _ _=>by refine Im ?_;intros;rfl
  yg:=F0
  aQ:=W.mg_of X G a1
  be:=F1.binds (ps:=["_law_bag_here","_law_many"]) λ_ _ _ _ _ _=>by refine ln2 ?_;intros;rfl
  aX:=F1
  xx:=W.mg_of X G a2
  yX:=F2.binds (ps:=["_law_bag_here"]) λ_ _ _ _ _ _=>by refine Im ?_;intros;rfl
  ur:=F2
  oi:=W.mg_of X G a3
  qM:=F3.binds (ps:=["_law_bag_here","_law_n"]) λ_ _ _ _ _ _=>by refine ln2 ?_;intros;rfl
  nP:=F3
  iH:=W.mg_of X G a4
  jN:=F4.binds (ps:=["_law_top","_law_bottom"]) λ_ _ _ _ _ _=>by refine ln2 ?_;intros;rfl
  iL:=F4
  ke:=W.mg_of X G a5
  lY:=F5.binds (ps:=["_law_one","_law_other"]) λ_ _ _ _ _ _=>by refine ln2 ?_;intros;rfl
  jO:=F5
  tq:=W.mg_of X G a6
  vK:=F6.binds (ps:=["_law_one","_law_other"]) λ_ _ _ _ _ _=>by refine ln2 ?_;intros;rfl
  rk:=F6
  kL:=W.mg_of X G a7
  nJ:=F7.binds (ps:=["_law_one","_law_other"]) λ_ _ _ _ _ _=>by refine ln2 ?_;intros;rfl
  ki:=F7
  ya:=W.mg_of X G a8
  z7:=F8.binds (ps:=["_law_by_here","_law_row_here"]) λ_ _ _ _ _ _=>by refine ln2 ?_;intros;rfl
  xc:=F8
  rK:=W.mg_of X G a9
  tU:=F9.binds (ps:=["_law_bag_here","_law_move_here","_law_put","_law_look"]) λ_ _ _ _ _ _=>by refine Qm ?_;intros;rfl
  oX:=F9
  pZ:=W.mg_of X G a10
  sC:=F10.binds (ps:=["_law_bag_here"]) λ_ _ _ _ _ _=>by refine Im ?_;intros;rfl
  ma:=F10
  vA:=W.mg_of X G a11
  xJ:=F11.binds (ps:=["_law_bag_here","_law_wide"]) λ_ _ _ _ _ _=>by refine ln2 ?_;intros;rfl
  rT:=F11
  gE:=W.mg_of X G a12
  iK:=F12.binds (ps:=["_law_bag_here","_law_many","_law_wide"]) λ_ _ _ _ _ _=>by refine Jp ?_;intros;rfl
  gN:=F12
  yD:=W.mg_of X G a13
  Aw:=F13.binds (ps:=["_law_bag_here","_law_n","_law_way","_law_first","_law_wide"]) λ_ _ _ _ _ _=>by refine QT ?_;intros;rfl
  vU:=F13
  xA:=W.mg_of X G a14
  yZ:=F14.binds (ps:=["_law_bag_here","_law_n","_law_ins","_law_outs","_law_wide"]) λ_ _ _ _ _ _=>by refine QT ?_;intros;rfl
  uv:=F14
  vw:=W.mg_of X G a15
  xH:=F15.binds (ps:=["_law_bag_here"]) λ_ _ _ _ _ _=>by refine Im ?_;intros;rfl
  rR:=F15
  og:=W.mg_of X G a16
  qJ:=F16.binds (ps:=["thing","at","most"]) λ_ _ _ _ _ _=>by refine Jp ?_;intros;rfl
  nN:=F16
  vv:=W.mg_of X G a17
  yd:=F17.binds (ps:=["thing"]) λ_ _ _ _ _ _=>by refine Im ?_;intros;rfl
  ui:=F17
  ik:=W.mg_of X G a18
  ji:=F18.binds (ps:=["one","other"]) λ_ _ _ _ _ _=>by refine ln2 ?_;intros;rfl
  gh:=F18
  yz:=W.mg_of X G a19
  Ar:=F19.binds (ps:=["thing"]) λ_ _ _ _ _ _=>by refine Im ?_;intros;rfl
  vQ:=F19
  DI:=W.mg_of X G a20
  GY:=F20.binds (ps:=["thing","many"]) λ_ _ _ _ _ _=>by refine ln2 ?_;intros;rfl
  Cz:=F20
  kK:=W.mg_of X G a21
  mP:=F21.binds (ps:=["things","wide"]) λ_ _ _ _ _ _=>by refine ln2 ?_;intros;rfl
  jz:=F21
  qO:=F22.binds (ps:=["self","move","put","look"]) λ_ _ _ _ _ _=>by refine Qm ?_;intros;rfl
  rn:=F22
  kM:=W.mg_of X G a23
  mQ:=F23.binds (ps:=["_law_grid"]) λ_ _ _ _ _ _=>by refine Im ?_;intros;rfl
  jA:=F23
  yE:=W.mg_of X G a24
  Ax:=F24.binds (ps:=["_law_parts_here"]) λ_ _ _ _ _ _=>by refine Im ?_;intros;rfl
  vV:=F24
  xv:=W.mg_of X G a25
  yW:=F25.binds (ps:=["_law_bag_here","_law_parts_here"]) λ_ _ _ _ _ _=>by refine ln2 ?_;intros;rfl
  uq:=F25
  p6:=W.mg_of X G a26
  tV:=F26.binds (ps:=["_law_one","_law_other"]) λ_ _ _ _ _ _=>by refine ln2 ?_;intros;rfl
  pR:=F26
  tu:=W.mg_of X G a27
  wN:=F27.binds (ps:=["_law_grid","_law_row_here"]) λ_ _ _ _ _ _=>by refine ln2 ?_;intros;rfl
  sH:=F27
  yC:=W.mg_of X G a28
  Av:=F28.binds (ps:=["_law_parts_here","_law_state","_law_puts_here"]) λ_ _ _ _ _ _=>by refine Jp ?_;intros;rfl
  vT:=F28
  vB:=W.mg_of X G a29
  ye:=F29.binds (ps:=["_law_parts_here","_law_start","_law_rows"]) λ_ _ _ _ _ _=>by refine Jp ?_;intros;rfl
  uA:=F29
  yB:=W.mg_of X G a30
  Au:=F30.binds (ps:=["_law_bag_here","_law_parts_here","_law_steps_here","_law_wide"]) λ_ _ _ _ _ _=>by refine Qm ?_;intros;rfl
  vS:=F30
  yG:=W.mg_of X G a31
  Az:=F31.binds (ps:=["_law_bag_here","_law_parts_here","_law_start","_law_steps_here","_law_wide"]) λ_ _ _ _ _ _=>by refine QT ?_;intros;rfl
  vX:=F31
  oh:=W.mg_of X G a32
  qK:=F32.binds (ps:=["row","bottom"]) λ_ _ _ _ _ _=>by refine ln2 ?_;intros;rfl
  nO:=F32
  pO:=W.mg_of X G a33
  qL:=F33.binds (ps:=["wholes"]) λ_ _ _ _ _ _=>by refine Im ?_;intros;rfl
  kY:=F33
  jd:=W.mg_of X G a34
  jE:=F34.binds (ps:=["row"]) λ_ _ _ _ _ _=>by refine Im ?_;intros;rfl
  gQ:=F34
  xt:=W.mg_of X G a35
  yU:=F35.binds (ps:=["lines","begin","place"]) λ_ _ _ _ _ _=>by refine Jp ?_;intros;rfl
  uj:=F35
  Cd:=W.mg_of X G a36
  D5:=F36.binds (ps:=["lines","at","place","before"]) λ_ _ _ _ _ _=>by refine Qm ?_;intros;rfl
  Af:=F36
  xu:=W.mg_of X G a37
  yV:=F37.binds (ps:=["lines","at","to"]) λ_ _ _ _ _ _=>by refine Jp ?_;intros;rfl
  uo:=F37
  BZ:=W.mg_of X G a38
  Fc:=F38.binds (ps:=["rows","wide"]) λ_ _ _ _ _ _=>by refine ln2 ?_;intros;rfl
  Be:=F38
  sv:=W.mg_of X G a39
  vJ:=F39.binds (ps:=["top","bottom"]) λ_ _ _ _ _ _=>by refine ln2 ?_;intros;rfl
  sG:=F39
  Ca:=W.mg_of X G a40
  DZ:=F40.binds (ps:=["rows","wide"]) λ_ _ _ _ _ _=>by refine ln2 ?_;intros;rfl
  Ac:=F40
  xZ:=W.mg_of X G a41
  z5:=F41.binds (ps:=["one","other"]) λ_ _ _ _ _ _=>by refine ln2 ?_;intros;rfl
  xa:=F41
  Cc:=W.mg_of X G a42
  D4:=F42.binds (ps:=["grid","row"]) λ_ _ _ _ _ _=>by refine ln2 ?_;intros;rfl
  Ae:=F42
  rH:=W.mg_of X G a43
  tS:=F43.binds (ps:=["system","rows"]) λ_ _ _ _ _ _=>by refine ln2 ?_;intros;rfl
  oW:=F43
  vq:=W.mg_of X G a44
  xG:=F44.binds (ps:=["system","steps"]) λ_ _ _ _ _ _=>by refine ln2 ?_;intros;rfl
  rQ:=F44
  Jk:=W.mg_of X G a45
  MK:=F45.binds (ps:=["lists"]) λ_ _ _ _ _ _=>by refine Im ?_;intros;rfl
  IH:=F45
  yA:=W.mg_of X G a46
  As:=F46.binds (ps:=["system","steps"]) λ_ _ _ _ _ _=>by refine ln2 ?_;intros;rfl
  vR:=F46
  mC:=W.mg_of X G a47
  oH:=F47.binds (ps:=["many"]) λ_ _ _ _ _ _=>by refine Im ?_;intros;rfl
  kX:=F47
  zR:=W.mg_of X G a48
  Cv:=F48.binds (ps:=["rows","wide","due"]) λ_ _ _ _ _ _=>by refine Jp ?_;intros;rfl
  zm:=F48
  kJ:=W.mg_of X G a49
  mO:=F49.binds (ps:=["grid","wide"]) λ_ _ _ _ _ _=>by refine ln2 ?_;intros;rfl
  jy:=F49
  Gz:=W.mg_of X G a50
  JG:=F50.binds (ps:=["rows","wide","due"]) λ_ _ _ _ _ _=>by refine Jp ?_;intros;rfl
  Fo:=F50
  vo:=W.mg_of X G a51
  xF:=F51.binds (ps:=["rows","wide","row"]) λ_ _ _ _ _ _=>by refine Jp ?_;intros;rfl
  rO:=F51
  GA:=W.mg_of X G a52
  JH:=F52.binds (ps:=["one","other"]) λ_ _ _ _ _ _=>by refine ln2 ?_;intros;rfl
  Fp:=F52
  yy:=W.mg_of X G a53
  Aq:=F53.binds (ps:=["one","other"]) λ_ _ _ _ _ _=>by refine ln2 ?_;intros;rfl
  vP:=F53
  uH:=⟨a54,i54,k54⟩
  vM:=F54.binds (ps:=["self","state","puts"]) λ_ _ _ _ _ _=>by refine Jp ?_;intros;rfl
  vY:=F54
  DJ:=W.mg_of X G a55
  G5:=F55.binds (ps:=["system","start","puts"]) λ_ _ _ _ _ _=>by refine Jp ?_;intros;rfl
  CA:=F55
  pN:=W.mg_of X G a56
  rM:=F56.binds (ps:=["system","steps"]) λ_ _ _ _ _ _=>by refine ln2 ?_;intros;rfl
  ni:=F56
  Cb:=W.mg_of X G a57
  D3:=F57.binds (ps:=["system","start","goal","steps"]) λ_ _ _ _ _ _=>by refine Qm ?_;intros;rfl
  Ad:=F57
  LV:=W.mg_of X G a58
  O4:=F58.binds (ps:=["row","many","wide"]) λ_ _ _ _ _ _=>by refine Jp ?_;intros;rfl
  MQ:=F58
  Jl:=W.mg_of X G a59
  ML:=F59.binds (ps:=["system","start","goal","steps"]) λ_ _ _ _ _ _=>by refine Qm ?_;intros;rfl
  II:=F59
  tm:=W.mg_of X G a60
  wM:=F60.binds (ps:=["system","start","goal","most"]) λ_ _ _ _ _ _=>by refine Qm ?_;intros;rfl
  sF:=F60
  oj:=W.mg_of X G a61
  qN:=F61.binds (ps:=["_law_thing"]) λ_ _ _ _ _ _=>by refine Im ?_;intros;rfl
  kj:=F61
  rJ:=W.mg_of X G a62
  tT:=F62.binds (ps:=["_law_thing"]) λ_ _ _ _ _ _=>by refine Im ?_;intros;rfl
  kZ:=F62
  p5:=W.mg_of X G a63
  sD:=F63.binds (ps:=["_law_thing"]) λ_ _ _ _ _ _=>by refine Im ?_;intros;rfl
  md:=F63
  pP:=W.mg_of X G a64
  rN:=F64.binds (ps:=["_law_thing","_law_many"]) λ_ _ _ _ _ _=>by refine ln2 ?_;intros;rfl
  nk:=F64
  uG:=W.mg_of X G a65
  vL:=F65.binds (ps:=["_law_thing","_law_many","_law_wide"]) λ_ _ _ _ _ _=>by refine Jp ?_;intros;rfl
  pQ:=F65
  xC:=W.mg_of X G a66
  y8:=F66.binds (ps:=["_law_parts_here","_law_start","_law_goal_here","_law_steps_here","_law_puts_here"]) λ_ _ _ _ _ _=>by refine QT ?_;intros;rfl
  uy:=F66
  xE:=W.mg_of X G a67
  za:=F67.binds (ps:=["_law_parts_here","_law_steps_here"]) λ_ _ _ _ _ _=>by refine ln2 ?_;intros;rfl
  uC:=F67
  yF:=W.mg_of X G a68
  Ay:=F68.binds (ps:=["_law_one","_law_other"]) λ_ _ _ _ _ _=>by refine ln2 ?_;intros;rfl
  vW:=F68
  xB:=W.mg_of X G a69
  y7:=F69.binds (ps:=["_law_one","_law_other"]) λ_ _ _ _ _ _=>by refine ln2 ?_;intros;rfl
  uw:=F69
  xD:=W.mg_of X G a70
  y9:=F70.binds (ps:=["_law_parts_here","_law_start","_law_steps_here"]) λ_ _ _ _ _ _=>by refine Jp ?_;intros;rfl
  uB:=F70
  vz:=W.mg_of X G a71
  xI:=F71.binds (ps:=["_law_parts_here","_law_start","_law_goal_here","_law_steps_here","_law_price"]) λ_ _ _ _ _ _=>by refine QT ?_;intros;rfl
  rS:=F71
  xy:=W.mg_of X G a72
  yY:=F72.binds (ps:=["_law_system_here","_law_parts_here","_law_start","_law_goal_here","_law_most"]) λ_ _ _ _ _ _=>by refine QT ?_;intros;rfl
  uu:=F72
  O8:=F73
  abs:=W.mg_none_of X G z_abs
  len:=W.mg_none_of X G z_len
  min:=W.mg_none_of X G z_min
  int:=W.mg_none_of X G z_int
  range:=W.mg_none_of X G z_range
  isinstance:=W.mg_none_of X G z_isinstance
  list:=W.mg_none_of X G z_list
  bool:=W.mg_none_of X G z_bool
  tuple:=W.mg_none_of X G z_tuple
  all:=W.mg_none_of X G z_all
  enumerate:=W.mg_none_of X G z_enumerate
  max:=W.mg_none_of X G z_max
  zip:=W.mg_none_of X G z_zip
  sum:=W.mg_none_of X G z_sum
  reversed:=W.mg_none_of X G z_reversed
  mg_NOUGHT:=W.mg_of X G ca0
  sq_NOUGHT:=λH=>.inr ⟨_,_,_,cl0,rfl,rfl,ks rfl,.cons ⟨_,rfl⟩ (.cons ⟨_,rfl⟩ (.nil))⟩
  mg_ONE:=W.mg_of X G ca1
  sq_ONE:=λH=>.inr ⟨_,_,_,cl1,rfl,rfl,ks rfl,.cons ⟨_,rfl⟩ (.cons ⟨_,rfl⟩ (.nil))⟩
  mg_MOST_STATES:=W.mg_of X G ci0
  mg_MOST_PUTS:=W.mg_of X G ci1
  mg_MOST_LOOKS:=W.mg_of X G ci2
  mg_System:=W.mg_of X G aC
  cl_System:=⟨pg,hd,po,sa⟩
  na_move:=n_move
  na_states:=n_states
  na_put:=n_put
  na_ins:=n_ins
  na_look:=n_look
  na_outs:=n_outs
  mk_System:=⟨mk,a22,i22,kc⟩ }
 exact ⟨_,λs v=>.of_eq rfl,λbase _ _=>Qf T⟩
theorem walk {l:W.OpenLaw} {q:Program} {loose:List Str} {XP:(Str->Option Value)->Heap->Prop} {YP:World->Heap->Prop} {d:DefRec} {K:Params->W.Frag} (hn:l.most=some 63) (hdf:d.params.defaults=[])
  (hY:∀(w:World) (h:Heap),YP w h->(K w.params).In h)
  (F:∀(w:World) (mg:Str->Option Value) (fa:Addr) (h:Heap),(K w.params).In h->h.Ns mainGlobals mg->mg d.name=some (.ref fa) →
   ∃fd:FuncData,(∀(s:Shared) (u:Value),BindsTo s fd ⟨[u],[]⟩ [("_law_script",u)])/\∀base:Heap,(K w.params).In base->base.Ns mainGlobals mg->cK l.prog w (K w.params) mg base gi 11 fa fd ["_law_script"] (Bv (K w.params))) :
  W.WalkO q loose XP YP l.row.toRowW d [] (λf vs=>PySem.call f vs) :=
 L2.Nd (n:=63) (k:=11) (x:="_law_script") (CX:=λ_=>gi) (sp:=λw=>Bv (K w.params)) hn (by decide) hdf ⟨rfl,by decide,by decide⟩ hY F (λ_ _ a ns hl _ hS=>⟨a,ns,rfl,hS,hl,λ_=>rfl⟩) λ_ _ _ _ _ z=>z
end Lw
namespace PySem.W.Fast
def tw3030194226427998694:=()
def tw5963498020986961475:=()
def tw7747124441526267018:=()
def tw8459235190345921131:=()
def tw14916913797833058723:=()
def tw1323456594330873761:=()
def tw11635063203165787111:=()
def tw3396474885036483719:=()
def tw17867982466985558526:=()
def tw10495226158963216708:=()
def tw14785059520040129892:=()
def tw10642614508187282721:=()
def tw1184054882650771927:=()
def tw13990844942481569656:=()
def tw14094962311131670987:=()
def tw4352531393671711808:=()
def tw6204742295405601125:=()
def tw11405785042982699102:=()
def tw18184857106509964920:=()
def tw17340998361722306599:=()
def tw15139672927113685863:=()
def tw16847058406640604788:=()
def tw13603340189713690097:=()
def tw16095821163345968762:=()
def tw2654222990944929213:=()
def tw7175754521720856334:=()
def tw14756052498516787597:=()
def tw16447369277463538316:=()
def tw17893428190440799490:=()
def tw15050802717568597683:=()
def tw11208993981362266425:=()
def tw1698199172110455497:=()
def tw5782594609843956344:=()
def tw5666846200212307227:=()
def tw17229014147803640332:=()
def tw1340441074858017375:=()
def tw4165996373977263578:=()
def tw114902304213293432:=()
def tw10457601930470331630:=()
def tw8632511780630343282:=()
def tw15644993793473792743:=()
def tw11716180945020645141:=()
def tw8444092757922924432:=()
def tw10568309822655777405:=()
def tw1865622516944978521:=()
def tw17148750913747875954:=()
def tw6848157362342877435:=()
def tw15558514137029067431:=()
def tw9379422803679219107:=()
def tw3369803337916387928:=()
def tw2351974564630012211:=()
def tw892023601894361459:=()
def tw7746257459179765812:=()
def tw13927650556906741245:=()
def tw16846071917202526213:=()
def tw4232802289429505307:=()
def tw3720012135264757062:=()
def tw4096112497818539294:=()
def tw178105959817358148:=()
def tw14069565842210539530:=()
def tw1693018765271037320:=()
def tw12340366685800544497:=()
def tw14554721632144881654:=()
def tw4525416670367847031:=()
def tw13062500687398544752:=()
def tw12574262203873334136:=()
def tw8047004857297363144:=()
def tw11302830778407682070:=()
def tw10951086670161898792:=()
def tw9055645179751799244:=()
def tw2476148947759440410:=()
def tw16669571028973240150:=()
def tw5979690146900699298:=()
def tw2003273273108501145:=()
def tw4415516798554514342:=()
def tw14434893688218544976:=()
def tw1345042122118626819:=()
def tw3366802733063858555:=()
def tw11143353693131675476:=()
def tw13520449359121371788:=()
def tw16419428398001571943:=()
def tw2063025915308929161:=()
def tw14501450881617352955:=()
def tw845527967277093812:=()
def tw12101603789880766611:=()
def tw16003348582439957842:=()
def tw17448681407170747039:=()
def tw3134625812078437982:=()
def tw4377294031389513340:=()
def tw7159374278818078818:=()
def tw16899437682349799095:=()
def tw11163490441754836907:=()
def tw2818717850561475116:=()
def tw17107160058222876082:=()
def tw566541134642635039:=()
def tw7592391661982024210:=()
def tw14552065330267852303:=()
def tw5267123859782375212:=()
def tw4480292576697430366:=()
def tw13660225511795069369:=()
def tw16383469815746029287:=()
def tw5232002500713843000:=()
def tw16741616955081213631:=()
def tw2334169645678899175:=()
def tw3892135043317584358:=()
def tw12497062418155565323:=()
def tw10553345165913976026:=()
def tw895266453622687942:=()
def tw17995992477443453451:=()
def tw5902623423610778050:=()
def tw16721539170750608244:=()
def tw1945870354561376756:=()
def tw12634656711689885481:=()
def tw6754571126757024988:=()
def tw14426053208944729578:=()
def tw2183165707276936564:=()
def tw7807327317229025370:=()
def tw1523755073586338546:=()
def tw10337831660128375553:=()
def tw1380060461027870733:=()
def tw5034833806264284062:=()
def tw9961667099649186939:=()
def tw4160780351981921765:=()
def tw13744027930518636200:=()
def tw679487170421163654:=()
def tw7093601013307288418:=()
def tw8720459075466686683:=()
def tw6300890721441996336:=()
def tw1726167281110713208:=()
def tw2912397039420690205:=()
def tw9043680214597674447:=()
def tw4323488602890126368:=()
def tw17793329945092670640:=()
def tw10013808450962067635:=()
def tw2727473041044720273:=()
theorem te3030194226427998694:True:=trivial
end PySem.W.Fast
open PySem PySem.W PyProof.Rows
set_option maxRecDepth 100000 in
set_option maxHeartbeats 0 in
theorem PySem.Challenge.cw_helmsum_k45_soonest_holds : PySem.Challenge.rw_helmsum_k45_soonest.Holds := by
 w_on;o_law;k_head;(case hw=>w_witness2)
 k_fill
 refine Lw.walk (l:=PySem.Challenge.rw_helmsum_k45_soonest) rfl rfl (λw h Y=>PySem.W.kIn_of Y) ?F
 case F =>
  intro w mg fa h KX G hmg;refine' Lw.all_mk KX G hmg ?aC ?a0 ?l0 ?c0 ?k0 ?a1 ?l1 ?c1 ?k1 ?a2 ?l2 ?c2 ?k2 ?a3 ?l3 ?c3 ?k3 ?a4 ?l4 ?c4 ?k4 ?a5 ?l5 ?c5 ?k5 ?a6 ?l6 ?c6 ?k6 ?a7 ?l7 ?c7 ?k7 ?a8 ?l8 ?c8 ?k8 ?a9 ?l9 ?c9 ?k9 ?a10 ?l10 ?c10 ?k10 ?a11 ?l11 ?c11 ?k11 ?a12 ?l12 ?c12 ?k12 ?a13 ?l13 ?c13 ?k13 ?a14 ?l14 ?c14 ?k14 ?a15 ?l15 ?c15 ?k15 ?a16 ?l16 ?c16 ?k16 ?a17 ?l17 ?c17 ?k17 ?a18 ?l18 ?c18 ?k18 ?a19 ?l19 ?c19 ?k19 ?a20 ?l20 ?c20 ?k20 ?a21 ?l21 ?c21 ?k21 ?a22 ?i22 ?l22 ?c22 ?k22 ?a23 ?l23 ?c23 ?k23 ?a24 ?l24 ?c24 ?k24 ?a25 ?l25 ?c25 ?k25 ?a26 ?l26 ?c26 ?k26 ?a27 ?l27 ?c27 ?k27 ?a28 ?l28 ?c28 ?k28 ?a29 ?l29 ?c29 ?k29 ?a30 ?l30 ?c30 ?k30 ?a31 ?l31 ?c31 ?k31 ?a32 ?l32 ?c32 ?k32 ?a33 ?l33 ?c33 ?k33 ?a34 ?l34 ?c34 ?k34 ?a35 ?l35 ?c35 ?k35 ?a36 ?l36 ?c36 ?k36 ?a37 ?l37 ?c37 ?k37 ?a38 ?l38 ?c38 ?k38 ?a39 ?l39 ?c39 ?k39 ?a40 ?l40 ?c40 ?k40 ?a41 ?l41 ?c41 ?k41 ?a42 ?l42 ?c42 ?k42 ?a43 ?l43 ?c43 ?k43 ?a44 ?l44 ?c44 ?k44 ?a45 ?l45 ?c45 ?k45 ?a46 ?l46 ?c46 ?k46 ?a47 ?l47 ?c47 ?k47 ?a48 ?l48 ?c48 ?k48 ?a49 ?l49 ?c49 ?k49 ?a50 ?l50 ?c50 ?k50 ?a51 ?l51 ?c51 ?k51 ?a52 ?l52 ?c52 ?k52 ?a53 ?l53 ?c53 ?k53 ?a54 ?i54 ?l54 ?c54 ?k54 ?a55 ?l55 ?c55 ?k55 ?a56 ?l56 ?c56 ?k56 ?a57 ?l57 ?c57 ?k57 ?a58 ?l58 ?c58 ?k58 ?a59 ?l59 ?c59 ?k59 ?a60 ?l60 ?c60 ?k60 ?a61 ?l61 ?c61 ?k61 ?a62 ?l62 ?c62 ?k62 ?a63 ?l63 ?c63 ?k63 ?a64 ?l64 ?c64 ?k64 ?a65 ?l65 ?c65 ?k65 ?a66 ?l66 ?c66 ?k66 ?a67 ?l67 ?c67 ?k67 ?a68 ?l68 ?c68 ?k68 ?a69 ?l69 ?c69 ?k69 ?a70 ?l70 ?c70 ?k70 ?a71 ?l71 ?c71 ?k71 ?a72 ?l72 ?c72 ?k72 ?a73 ?l73 ?c73 ?k73 ?ca0 ?cl0 ?ca1 ?cl1 ?ci0 ?ci1 ?ci2 ?pg ?hd ?po ?sa ?mk ?kc ?n_move ?n_states ?n_put ?n_ins ?n_look ?n_outs ?z_abs ?z_len ?z_min ?z_int ?z_range ?z_isinstance ?z_list ?z_bool ?z_tuple ?z_all ?z_enumerate ?z_max ?z_zip ?z_sum ?z_reversed
  all_goals try k_is